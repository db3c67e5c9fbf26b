/- A geometry: its value, and whether it may be. -/
import Derived.Test.YtbmabcddciibfaaGeomMath
import Derived.Test.YtbmabcddciibfaaProg
import Derived.WalkKit
import Derived.OwnWalk
import Derived.Below
import Derived.Laws.Rows
import Derived.Laws.OwnMore
import Derived.Laws.NewBlocks
import Derived.Lib.Hide
import Derived.Deep.QuietTactic
import Derived.BigQuiet
import Derived.RegionTactic
import Derived.StillTailTactics
import Derived.Deep.RegionHeld3
import Derived.WalkSpells
import Derived.WalkLawsBesides
import Derived.Outline
namespace Go.Proofs.Ytbmabcddciibfaa
namespace Geo
open Go.RowKit
set_option linter.unusedVariables false
/-- A geometry's value. -/
def Gv (o c : Int) : Value := .agg #[.int .i64 o, .int .i64 c]

theorem cell_alloc2 (w : World) (o c : Int) : (w.alloc (.cells #[.int .i64 o, .int .i64 c] 51)).cell? ⟨w.heap.size, 0, none⟩ = some (.int .i64 o) ∧ (w.alloc (.cells #[.int .i64 o, .int .i64 c] 51)).cell? ⟨w.heap.size, 1, none⟩ = some (.int .i64 c) := by
  have h : (w.alloc (.cells #[.int .i64 o, .int .i64 c] 51)).heap[w.heap.size]? = some (.cells #[.int .i64 o, .int .i64 c] 51 (0, 0)) := by
    show (w.heap.push _)[w.heap.size]? = _
    rw [Array.getElem?_push_size]
  exact ⟨by rw [cell_of_row _ _ _ _ _ _ h]; rfl, by rw [cell_of_row _ _ _ _ _ _ h]; rfl⟩
theorem right_any (o c : Int) (w : World) : Calls Try.prog 20 #[.agg #[.int .i64 o, .int .i64 c]] w fun e w' => e = .returned (.bool (Em.rightB o c)) ∧ Below w.heap.size w w' := by
  have hB : Below w.heap.size w (w.alloc (.cells #[.int .i64 o, .int .i64 c] 51)) := (Below.refl _ w).alloc (Nat.le_refl _) _
  by_cases h1 : 1 ≤ o
  · by_cases h2 : o ≤ 1048576
    · by_cases h3 : 1 ≤ c
      · have hr : Em.rightB o c = decide (c ≤ 128) := by unfold Em.rightB; simp [h1, h2, h3]
        have HR := Lib.hid hr
        clear hr
        go_enter Try.func20, Try.ntmps20
        go_wp2_with fail
        go_ret
        exact ⟨by rw [HR.out]; rfl, hB⟩
      · have hr : Em.rightB o c = false := by unfold Em.rightB; simp [h1, h2, h3]
        have HR := Lib.hid hr
        clear hr
        have hd : decide (1 ≤ c) = false := by simpa using h3
        go_enter Try.func20, Try.ntmps20
        go_wp2_with fail
        go_ret
        exact ⟨by rw [HR.out]; rfl, hB⟩
    · have hr : Em.rightB o c = false := by unfold Em.rightB; simp [h1, h2]
      have HR := Lib.hid hr
      clear hr
      have hd : decide (o ≤ 1048576) = false := by simpa using h2
      go_enter Try.func20, Try.ntmps20
      go_wp2_with fail
      go_ret
      exact ⟨by rw [HR.out]; rfl, hB⟩
  · have hr : Em.rightB o c = false := by unfold Em.rightB; simp [h1]
    have HR := Lib.hid hr
    clear hr
    have hd : decide (1 ≤ o) = false := by simpa using h1
    go_enter Try.func20, Try.ntmps20
    go_wp2_with fail
    go_ret
    exact ⟨by rw [HR.out]; rfl, hB⟩

end Geo
end Go.Proofs.Ytbmabcddciibfaa