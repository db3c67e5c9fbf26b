/- The document's own: may a superblock be? -/
import Derived.Test.YtbmabcddciibfaaSuperRight
namespace Go.Proofs.Ytbmabcddciibfaa
open Go.RowKit
set_option maxRecDepth 100000
set_option linter.unusedVariables false
theorem ruright_any (a n g : Int) (w : World) : Calls Try.prog 4 #[Uv a n g] w fun e w' => e = .returned (.bool (Um.okU a n g)) ∧ Below w.heap.size w w' := by
  unfold Uv
  have HB : Hid (Below w.heap.size w (w.alloc (.cells #[.int .i64 a, .int .i64 n, .int .i64 g] 23))) := (Below.refl _ w).alloc (Nat.le_refl _) _
  by_cases h0 : 1 ≤ n
  · have d0 : decide (1 ≤ n) = true := by simpa using h0
    by_cases h1 : n ≤ 1048576
    · have d1 : decide (n ≤ 1048576) = true := by simpa using h1
      by_cases h2 : 1 ≤ g
      · have d2 : decide (1 ≤ g) = true := by simpa using h2
        by_cases h3 : g ≤ 128
        · have d3 : decide (g ≤ 128) = true := by simpa using h3
          by_cases h4 : a ≤ 1048576
          · have d4 : decide (a ≤ 1048576) = true := by simpa using h4
            have e1 : IntKind.i64.wrap (n + 17) = n + 17 := IntWalk.i64_in _ (by omega)
            have hr : Um.okU a n g = decide (n + 17 ≤ a) := by unfold Um.okU Em.rightB; rw [d0, d1, d2, d3, d4]; simp
            have HR := Lib.hid hr
            clear hr h0 h1 h2 h3 h4
            go_enter Try.func4, Try.ntmps4
            go_wp2_with fail
            go_ret
            exact ⟨by rw [HR.out]; rfl, HB.out⟩
          · have d4 : decide (a ≤ 1048576) = false := by simpa using h4
            have hr : Um.okU a n g = false := by unfold Um.okU Em.rightB; rw [d4]; simp
            have HR := Lib.hid hr
            clear hr h0 h1 h2 h3 h4
            go_enter Try.func4, Try.ntmps4
            go_wp2_with fail
            go_ret
            exact ⟨by rw [HR.out]; rfl, HB.out⟩
        · have d3 : decide (g ≤ 128) = false := by simpa using h3
          have hr : Um.okU a n g = false := by unfold Um.okU Em.rightB; rw [d3]; simp
          have HR := Lib.hid hr
          clear hr h0 h1 h2 h3
          go_enter Try.func4, Try.ntmps4
          go_wp2_with fail
          go_ret
          exact ⟨by rw [HR.out]; rfl, HB.out⟩
      · have d2 : decide (1 ≤ g) = false := by simpa using h2
        have hr : Um.okU a n g = false := by unfold Um.okU Em.rightB; rw [d2]; simp
        have HR := Lib.hid hr
        clear hr h0 h1 h2
        go_enter Try.func4, Try.ntmps4
        go_wp2_with fail
        go_ret
        exact ⟨by rw [HR.out]; rfl, HB.out⟩
    · have d1 : decide (n ≤ 1048576) = false := by simpa using h1
      have hr : Um.okU a n g = false := by unfold Um.okU Em.rightB; rw [d1]; simp
      have HR := Lib.hid hr
      clear hr h0 h1
      go_enter Try.func4, Try.ntmps4
      go_wp2_with fail
      go_ret
      exact ⟨by rw [HR.out]; rfl, HB.out⟩
  · have d0 : decide (1 ≤ n) = false := by simpa using h0
    have hr : Um.okU a n g = false := by unfold Um.okU Em.rightB; rw [d0]; simp
    have HR := Lib.hid hr
    clear hr h0
    go_enter Try.func4, Try.ntmps4
    go_wp2_with fail
    go_ret
    exact ⟨by rw [HR.out]; rfl, HB.out⟩
end Go.Proofs.Ytbmabcddciibfaa