/- May a slot be? No program is named. -/
import Derived.Test.YtimfmmhbkgllpaaOctetJoin
namespace Go.Proofs.Ytimfmmhbkgllpaa
namespace Tm

/-- May the store of a slot that is used stand there? -/
def okF (a n : Int) : Bool := decide (1 ≤ n) && decide (0 ≤ a) && decide (a ≤ 1048576 - n)
theorem okF_iff (a n : Int) : okF a n = true ↔ 1 ≤ n ∧ 0 ≤ a ∧ a ≤ 1048576 - n := by
  simp only [okF, Bool.and_eq_true, decide_eq_true_eq, and_assoc]
/-- May a slot be? (State, Start, Len, Gen.) -/
def okT (t a n : Int) (g : Nat) : Bool := if t = 0 then decide (a = 0) && decide (n = 0) else if t = 1 then decide (1 ≤ g) && okF a n else if t = 2 then decide (1 ≤ g) && okF a n else false
theorem okT_free (a n : Int) (g : Nat) : okT 0 a n g = (decide (a = 0) && decide (n = 0)) := by unfold okT; rw [if_pos rfl]
theorem okT_used (a n : Int) (g : Nat) : okT 1 a n g = (decide (1 ≤ g) && okF a n) := by unfold okT; rw [if_neg (by decide), if_pos rfl]
theorem okT_merging (a n : Int) (g : Nat) : okT 2 a n g = (decide (1 ≤ g) && okF a n) := by unfold okT; rw [if_neg (by decide), if_neg (by decide), if_pos rfl]
theorem okT_else (t a n : Int) (g : Nat) (h0 : t ≠ 0) (h1 : t ≠ 1) (h2 : t ≠ 2) : okT t a n g = false := by unfold okT; rw [if_neg h0, if_neg h1, if_neg h2]
theorem okT_small {t a n : Int} {g : Nat} (h : okT t a n g = true) : 0 ≤ t ∧ t ≤ 2 ∧ 0 ≤ a ∧ a ≤ 1048576 ∧ 0 ≤ n ∧ n ≤ 1048576 := by
  by_cases h0 : t = 0
  · subst h0
    rw [okT_free, Bool.and_eq_true, decide_eq_true_eq, decide_eq_true_eq] at h
    omega
  · by_cases h1 : t = 1
    · subst h1
      rw [okT_used, Bool.and_eq_true, okF_iff] at h
      omega
    · by_cases h2 : t = 2
      · subst h2
        rw [okT_merging, Bool.and_eq_true, okF_iff] at h
        omega
      · rw [okT_else t a n g h0 h1 h2] at h; cases h
def ts : List UInt8 := [79, 65, 75, 83]
def zs : List Int := [1, 4, 4, 4]
end Tm
end Go.Proofs.Ytimfmmhbkgllpaa
