/- Contracts of the document's own small calls of slots: RightSlot, slots. -/
import Derived.Test.YtimfmmhbkgllpaaSlotCode
namespace Go.Proofs.Ytimfmmhbkgllpaa
open Go.RowKit
set_option linter.unusedVariables false

theorem rsright_any (t a n : Int) (g : Nat) (w : World) (hn : n < 9223372036854775808) : Calls Try.prog 10 #[Sv t a n g] w fun e w' => e = .returned (.bool (Tm.okT t a n g)) ∧ Below w.heap.size w w' := by
  unfold Sv
  by_cases h0 : t = 0
  · subst h0
    have HB : Hid (Below w.heap.size w (w.alloc (.cells #[.int .i64 0, .int .i64 a, .int .i64 n, .int .u32 (g : Int)] 27))) := (Below.refl _ w).alloc (Nat.le_refl _) _
    by_cases ha : a = 0
    · subst ha
      by_cases hn0 : n = 0
      · subst hn0
        have HR := Lib.hid (show Tm.okT 0 0 0 g = true from rfl)
        go_enter Try.func10, Try.ntmps10
        go_wp2_with fail
        go_ret
        exact ⟨by rw [HR.out]; rfl, HB.out⟩
      · have d2 : (n == 0) = false := by simpa using hn0
        have hr : Tm.okT 0 0 n g = false := by rw [Tm.okT_free]; simp [hn0]
        have HR := Lib.hid hr
        clear hr hn0 hn
        go_enter Try.func10, Try.ntmps10
        go_wp2_with fail
        go_ret
        exact ⟨by rw [HR.out]; rfl, HB.out⟩
    · have d1 : (a == 0) = false := by simpa using ha
      have hr : Tm.okT 0 a n g = false := by rw [Tm.okT_free]; simp [ha]
      have HR := Lib.hid hr
      clear hr ha hn
      go_enter Try.func10, Try.ntmps10
      go_wp2_with fail
      go_ret
      exact ⟨by rw [HR.out]; rfl, HB.out⟩
  · by_cases h1 : t = 1
    · subst h1
      have HB : Hid (Below w.heap.size w (w.alloc (.cells #[.int .i64 1, .int .i64 a, .int .i64 n, .int .u32 (g : Int)] 27))) := (Below.refl _ w).alloc (Nat.le_refl _) _
      by_cases k1 : 1 ≤ g
      · have d1 : decide (1 ≤ (g : Int)) = true := by simp; omega
        by_cases h2 : 0 ≤ a
        · have d2 : decide (0 ≤ a) = true := by simpa using h2
          by_cases h3 : 1 ≤ n
          · have d3 : decide (1 ≤ n) = true := by simpa using h3
            by_cases h4 : a ≤ 1048576
            · have d4 : decide (a ≤ 1048576) = true := by simpa using h4
              have e5 : IntKind.i64.wrap (1048576 - a) = 1048576 - a := IntWalk.i64_in _ (by omega)
              have hr : Tm.okT 1 a n g = decide (n ≤ 1048576 - a) := by rw [Tm.okT_used]; unfold Tm.okF; rw [d2, d3, decide_eq_true k1, Bool.true_and, Bool.true_and, Bool.true_and]; exact decide_eq_decide.2 (by omega)
              have HR := Lib.hid hr
              clear hr k1 h2 h3 h4 hn
              go_enter Try.func10, Try.ntmps10
              go_wp2_with fail
              go_ret
              exact ⟨by rw [HR.out]; rfl, HB.out⟩
            · have d4 : decide (a ≤ 1048576) = false := by simpa using h4
              have hr : Tm.okT 1 a n g = false := by rw [Tm.okT_used]; unfold Tm.okF; rw [decide_eq_false (p := a ≤ 1048576 - n) (by omega), Bool.and_false, Bool.and_false]
              have HR := Lib.hid hr
              clear hr k1 h2 h3 h4 hn
              go_enter Try.func10, Try.ntmps10
              go_wp2_with fail
              go_ret
              exact ⟨by rw [HR.out]; rfl, HB.out⟩
          · have d3 : decide (1 ≤ n) = false := by simpa using h3
            have hr : Tm.okT 1 a n g = false := by rw [Tm.okT_used]; unfold Tm.okF; rw [d3]; simp
            have HR := Lib.hid hr
            clear hr k1 h2 h3 hn
            go_enter Try.func10, Try.ntmps10
            go_wp2_with fail
            go_ret
            exact ⟨by rw [HR.out]; rfl, HB.out⟩
        · have d2 : decide (0 ≤ a) = false := by simpa using h2
          have hr : Tm.okT 1 a n g = false := by rw [Tm.okT_used]; unfold Tm.okF; rw [d2]; simp
          have HR := Lib.hid hr
          clear hr k1 h2 hn
          go_enter Try.func10, Try.ntmps10
          go_wp2_with fail
          go_ret
          exact ⟨by rw [HR.out]; rfl, HB.out⟩
      · have d1 : decide (1 ≤ (g : Int)) = false := by simp; omega
        have hr : Tm.okT 1 a n g = false := by rw [Tm.okT_used]; simp [k1]
        have HR := Lib.hid hr
        clear hr k1 hn
        go_enter Try.func10, Try.ntmps10
        go_wp2_with fail
        go_ret
        exact ⟨by rw [HR.out]; rfl, HB.out⟩
    · by_cases h2 : t = 2
      · subst h2
        have HB : Hid (Below w.heap.size w (w.alloc (.cells #[.int .i64 2, .int .i64 a, .int .i64 n, .int .u32 (g : Int)] 27))) := (Below.refl _ w).alloc (Nat.le_refl _) _
        by_cases k1 : 1 ≤ g
        · have d1 : decide (1 ≤ (g : Int)) = true := by simp; omega
          by_cases h2 : 0 ≤ a
          · have d2 : decide (0 ≤ a) = true := by simpa using h2
            by_cases h3 : 1 ≤ n
            · have d3 : decide (1 ≤ n) = true := by simpa using h3
              by_cases h4 : a ≤ 1048576
              · have d4 : decide (a ≤ 1048576) = true := by simpa using h4
                have e5 : IntKind.i64.wrap (1048576 - a) = 1048576 - a := IntWalk.i64_in _ (by omega)
                have hr : Tm.okT 2 a n g = decide (n ≤ 1048576 - a) := by rw [Tm.okT_merging]; unfold Tm.okF; rw [d2, d3, decide_eq_true k1, Bool.true_and, Bool.true_and, Bool.true_and]; exact decide_eq_decide.2 (by omega)
                have HR := Lib.hid hr
                clear hr k1 h2 h3 h4 hn
                go_enter Try.func10, Try.ntmps10
                go_wp2_with fail
                go_ret
                exact ⟨by rw [HR.out]; rfl, HB.out⟩
              · have d4 : decide (a ≤ 1048576) = false := by simpa using h4
                have hr : Tm.okT 2 a n g = false := by rw [Tm.okT_merging]; unfold Tm.okF; rw [decide_eq_false (p := a ≤ 1048576 - n) (by omega), Bool.and_false, Bool.and_false]
                have HR := Lib.hid hr
                clear hr k1 h2 h3 h4 hn
                go_enter Try.func10, Try.ntmps10
                go_wp2_with fail
                go_ret
                exact ⟨by rw [HR.out]; rfl, HB.out⟩
            · have d3 : decide (1 ≤ n) = false := by simpa using h3
              have hr : Tm.okT 2 a n g = false := by rw [Tm.okT_merging]; unfold Tm.okF; rw [d3]; simp
              have HR := Lib.hid hr
              clear hr k1 h2 h3 hn
              go_enter Try.func10, Try.ntmps10
              go_wp2_with fail
              go_ret
              exact ⟨by rw [HR.out]; rfl, HB.out⟩
          · have d2 : decide (0 ≤ a) = false := by simpa using h2
            have hr : Tm.okT 2 a n g = false := by rw [Tm.okT_merging]; unfold Tm.okF; rw [d2]; simp
            have HR := Lib.hid hr
            clear hr k1 h2 hn
            go_enter Try.func10, Try.ntmps10
            go_wp2_with fail
            go_ret
            exact ⟨by rw [HR.out]; rfl, HB.out⟩
        · have d1 : decide (1 ≤ (g : Int)) = false := by simp; omega
          have hr : Tm.okT 2 a n g = false := by rw [Tm.okT_merging]; simp [k1]
          have HR := Lib.hid hr
          clear hr k1 hn
          go_enter Try.func10, Try.ntmps10
          go_wp2_with fail
          go_ret
          exact ⟨by rw [HR.out]; rfl, HB.out⟩
      · have t0 : (t == 0) = false := by simpa using h0
        have t1 : (t == 1) = false := by simpa using h1
        have t2 : (t == 2) = false := by simpa using h2
        have HR := Lib.hid (Tm.okT_else t a n g h0 h1 h2)
        clear h0 h1 h2 hn
        have HB : Hid (Below w.heap.size w (w.alloc (.cells #[.int .i64 t, .int .i64 a, .int .i64 n, .int .u32 (g : Int)] 27))) := (Below.refl _ w).alloc (Nat.le_refl _) _
        go_enter Try.func10, Try.ntmps10
        go_wp2_with fail
        go_ret
        exact ⟨by rw [HR.out]; rfl, HB.out⟩
theorem rslots_any (w : World) : Calls Try.prog 17 #[] w fun e w' => e = .returned (.slice (some ⟨w.heap.size, 0, none⟩) 4 4) ∧ Row w' w'.heap.size (some ⟨w.heap.size, 0, none⟩) 4 (szs Tm.zs) ∧ Below w.heap.size w w' := by
  have hown : (w.alloc (.cells #[.int .i64 1, .int .i64 4, .int .i64 4, .int .i64 4] 3)).ownsRow w.heap.size 3 1 (.slice (some ⟨w.heap.size, 0, none⟩) 4 4) 4 [.int .i64 1, .int .i64 4, .int .i64 4, .int .i64 4] := World.ownsRow_lit w #[.int .i64 1, .int .i64 4, .int .i64 4, .int .i64 4] 4 (Nat.le_refl _) (by unfold maxLen; omega) rfl
  have hrow : Row (w.alloc (.cells #[.int .i64 1, .int .i64 4, .int .i64 4, .int .i64 4] 3)) (w.alloc (.cells #[.int .i64 1, .int .i64 4, .int .i64 4, .int .i64 4] 3)).heap.size (some ⟨w.heap.size, 0, none⟩) 4 (szs Tm.zs) := Row.own hown (fun i hi => by
    match i, hi with
    | 0, _ => rfl
    | 1, _ => rfl
    | 2, _ => rfl
    | 3, _ => rfl)
  have HB : Hid (Below w.heap.size w (w.alloc (.cells #[.int .i64 1, .int .i64 4, .int .i64 4, .int .i64 4] 3))) := (Below.refl _ w).alloc (Nat.le_refl _) _
  have HR := Lib.hid hrow
  clear hown hrow
  go_enter Try.func17, Try.ntmps17
  go_wp2
  go_ret
  exact ⟨rfl, HR.out, HB.out⟩
end Go.Proofs.Ytimfmmhbkgllpaa
