/- Contracts of head's small calls (Right, mark, sizes) and of the document's own. -/
import Derived.Test.YtpocafiihdnnlaaHeadMath
import Derived.Laws.Rows
import Derived.Laws.Tables
import Derived.Laws.ResultCell
import Derived.Laws.OwnMore
import Derived.Deep.RegionHeld3
import Derived.Deep.QuietTactic
import Derived.BigQuiet
import Derived.Outline
namespace Go.Proofs.Ytpocafiihdnnlaa
open Go.RowKit
set_option linter.unusedVariables false

/-- A head's value. -/
def Hv (g : Nat) (c p : Int) (b : Bool) : Value := .agg #[.int .u32 (g : Int), .int .i64 c, .int .i64 p, .bool b]
theorem hright_any (g : Nat) (c p : Int) (b : Bool) (w : World) : Calls Try.prog 9 #[Hv g c p b] w fun e w' => e = .returned (.bool (Hm.okH g c p)) ∧ Below w.heap.size w w' := by
  have HB : Hid (Below w.heap.size w (w.alloc (.cells #[.int .u32 (g : Int), .int .i64 c, .int .i64 p, .bool b] 24))) := (Below.refl _ w).alloc (Nat.le_refl _) _
  unfold Hv
  by_cases h1 : 1 ≤ g
  · have d1 : decide (1 ≤ (g : Int)) = true := by simp; omega
    by_cases h2 : 1 ≤ c
    · have d2 : decide (1 ≤ c) = true := by simpa using h2
      by_cases h3 : c ≤ 128
      · have d3 : decide (c ≤ 128) = true := by simpa using h3
        by_cases h4 : 1 ≤ p
        · have d4 : decide (1 ≤ p) = true := by simpa using h4
          have hr : Hm.okH g c p = decide (p ≤ 1048576) := by unfold Hm.okH; simp [h1, h2, h3, h4]
          have HR := Lib.hid hr
          clear hr h1 h2 h3 h4
          go_enter Try.func9, Try.ntmps9
          go_wp2_with fail
          go_ret
          exact ⟨by rw [HR.out]; rfl, HB.out⟩
        · have d4 : decide (1 ≤ p) = false := by simpa using h4
          have hr : Hm.okH g c p = false := by unfold Hm.okH; simp [h4]
          have HR := Lib.hid hr
          clear hr h1 h2 h3 h4
          go_enter Try.func9, Try.ntmps9
          go_wp2_with fail
          go_ret
          exact ⟨by rw [HR.out]; rfl, HB.out⟩
      · have d3 : decide (c ≤ 128) = false := by simpa using h3
        have hr : Hm.okH g c p = false := by unfold Hm.okH; simp [h3]
        have HR := Lib.hid hr
        clear hr h1 h2 h3
        go_enter Try.func9, Try.ntmps9
        go_wp2_with fail
        go_ret
        exact ⟨by rw [HR.out]; rfl, HB.out⟩
    · have d2 : decide (1 ≤ c) = false := by simpa using h2
      have hr : Hm.okH g c p = false := by unfold Hm.okH; simp [h2]
      have HR := Lib.hid hr
      clear hr h1 h2
      go_enter Try.func9, Try.ntmps9
      go_wp2_with fail
      go_ret
      exact ⟨by rw [HR.out]; rfl, HB.out⟩
  · have d1 : decide (1 ≤ (g : Int)) = false := by simp; omega
    have hr : Hm.okH g c p = false := by unfold Hm.okH; simp [h1]
    have HR := Lib.hid hr
    clear hr h1
    go_enter Try.func9, Try.ntmps9
    go_wp2_with fail
    go_ret
    exact ⟨by rw [HR.out]; rfl, HB.out⟩
theorem rhright_any (g : Nat) (c p : Int) (b : Bool) (w : World) : Calls Try.prog 10 #[Hv g c p b] w fun e w' => e = .returned (.bool (Hm.okH g c p)) ∧ Below w.heap.size w w' := by
  have HB : Hid (Below w.heap.size w (w.alloc (.cells #[.int .u32 (g : Int), .int .i64 c, .int .i64 p, .bool b] 24))) := (Below.refl _ w).alloc (Nat.le_refl _) _
  unfold Hv
  by_cases h1 : 1 ≤ g
  · have d1 : decide (1 ≤ (g : Int)) = true := by simp; omega
    by_cases h2 : 1 ≤ c
    · have d2 : decide (1 ≤ c) = true := by simpa using h2
      by_cases h3 : c ≤ 128
      · have d3 : decide (c ≤ 128) = true := by simpa using h3
        by_cases h4 : 1 ≤ p
        · have d4 : decide (1 ≤ p) = true := by simpa using h4
          have hr : Hm.okH g c p = decide (p ≤ 1048576) := by unfold Hm.okH; simp [h1, h2, h3, h4]
          have HR := Lib.hid hr
          clear hr h1 h2 h3 h4
          go_enter Try.func10, Try.ntmps10
          go_wp2_with fail
          go_ret
          exact ⟨by rw [HR.out]; rfl, HB.out⟩
        · have d4 : decide (1 ≤ p) = false := by simpa using h4
          have hr : Hm.okH g c p = false := by unfold Hm.okH; simp [h4]
          have HR := Lib.hid hr
          clear hr h1 h2 h3 h4
          go_enter Try.func10, Try.ntmps10
          go_wp2_with fail
          go_ret
          exact ⟨by rw [HR.out]; rfl, HB.out⟩
      · have d3 : decide (c ≤ 128) = false := by simpa using h3
        have hr : Hm.okH g c p = false := by unfold Hm.okH; simp [h3]
        have HR := Lib.hid hr
        clear hr h1 h2 h3
        go_enter Try.func10, Try.ntmps10
        go_wp2_with fail
        go_ret
        exact ⟨by rw [HR.out]; rfl, HB.out⟩
    · have d2 : decide (1 ≤ c) = false := by simpa using h2
      have hr : Hm.okH g c p = false := by unfold Hm.okH; simp [h2]
      have HR := Lib.hid hr
      clear hr h1 h2
      go_enter Try.func10, Try.ntmps10
      go_wp2_with fail
      go_ret
      exact ⟨by rw [HR.out]; rfl, HB.out⟩
  · have d1 : decide (1 ≤ (g : Int)) = false := by simp; omega
    have hr : Hm.okH g c p = false := by unfold Hm.okH; simp [h1]
    have HR := Lib.hid hr
    clear hr h1
    go_enter Try.func10, Try.ntmps10
    go_wp2_with fail
    go_ret
    exact ⟨by rw [HR.out]; rfl, HB.out⟩
theorem mark_any (b : Bool) (w : World) : Calls Try.prog 15 #[.bool b] w fun e w' => e = .returned (.int .u64 ((Hm.bit b : Nat) : Int)) ∧ w = w' := by
  cases b with
  | true =>
    go_enter Try.func15, Try.ntmps15
    go_wp2
    go_ret
    exact ⟨rfl, rfl⟩
  | false =>
    go_enter Try.func15, Try.ntmps15
    go_wp2
    go_ret
    exact ⟨rfl, rfl⟩
theorem flag_any (b : Bool) (w : World) : Calls Try.prog 19 #[.bool b] w fun e w' => e = .returned (.int .u64 ((Hm.bit b : Nat) : Int)) ∧ w = w' := by
  cases b with
  | true =>
    go_enter Try.func19, Try.ntmps19
    go_wp2
    go_ret
    exact ⟨rfl, rfl⟩
  | false =>
    go_enter Try.func19, Try.ntmps19
    go_wp2
    go_ret
    exact ⟨rfl, rfl⟩
theorem hsizes_any (w : World) : Calls Try.prog 14 #[] w fun e w' => e = .returned (.slice (some ⟨w.heap.size, 0, none⟩) 4 4) ∧ Row w' w'.heap.size (some ⟨w.heap.size, 0, none⟩) 4 (szs Hm.zs) ∧ Below w.heap.size w w' := by
  have hown : (w.alloc (.cells #[.int .i64 4, .int .i64 2, .int .i64 4, .int .i64 1] 3)).ownsRow w.heap.size 3 1 (.slice (some ⟨w.heap.size, 0, none⟩) 4 4) 4 [.int .i64 4, .int .i64 2, .int .i64 4, .int .i64 1] := World.ownsRow_lit w #[.int .i64 4, .int .i64 2, .int .i64 4, .int .i64 1] 4 (Nat.le_refl _) (by unfold maxLen; omega) rfl
  have hrow : Row (w.alloc (.cells #[.int .i64 4, .int .i64 2, .int .i64 4, .int .i64 1] 3)) (w.alloc (.cells #[.int .i64 4, .int .i64 2, .int .i64 4, .int .i64 1] 3)).heap.size (some ⟨w.heap.size, 0, none⟩) 4 (szs Hm.zs) := Row.own hown (fun i hi => by
    match i, hi with
    | 0, _ => rfl
    | 1, _ => rfl
    | 2, _ => rfl
    | 3, _ => rfl)
  have HB : Hid (Below w.heap.size w (w.alloc (.cells #[.int .i64 4, .int .i64 2, .int .i64 4, .int .i64 1] 3))) := (Below.refl _ w).alloc (Nat.le_refl _) _
  have HR := Lib.hid hrow
  clear hown hrow
  go_enter Try.func14, Try.ntmps14
  go_wp2
  go_ret
  exact ⟨rfl, HR.out, HB.out⟩
theorem rheads_any (w : World) : Calls Try.prog 18 #[] w fun e w' => e = .returned (.slice (some ⟨w.heap.size, 0, none⟩) 4 4) ∧ Row w' w'.heap.size (some ⟨w.heap.size, 0, none⟩) 4 (szs Hm.zs) ∧ Below w.heap.size w w' := by
  have hown : (w.alloc (.cells #[.int .i64 4, .int .i64 2, .int .i64 4, .int .i64 1] 3)).ownsRow w.heap.size 3 1 (.slice (some ⟨w.heap.size, 0, none⟩) 4 4) 4 [.int .i64 4, .int .i64 2, .int .i64 4, .int .i64 1] := World.ownsRow_lit w #[.int .i64 4, .int .i64 2, .int .i64 4, .int .i64 1] 4 (Nat.le_refl _) (by unfold maxLen; omega) rfl
  have hrow : Row (w.alloc (.cells #[.int .i64 4, .int .i64 2, .int .i64 4, .int .i64 1] 3)) (w.alloc (.cells #[.int .i64 4, .int .i64 2, .int .i64 4, .int .i64 1] 3)).heap.size (some ⟨w.heap.size, 0, none⟩) 4 (szs Hm.zs) := Row.own hown (fun i hi => by
    match i, hi with
    | 0, _ => rfl
    | 1, _ => rfl
    | 2, _ => rfl
    | 3, _ => rfl)
  have HB : Hid (Below w.heap.size w (w.alloc (.cells #[.int .i64 4, .int .i64 2, .int .i64 4, .int .i64 1] 3))) := (Below.refl _ w).alloc (Nat.le_refl _) _
  have HR := Lib.hid hrow
  clear hown hrow
  go_enter Try.func18, Try.ntmps18
  go_wp2
  go_ret
  exact ⟨rfl, HR.out, HB.out⟩

end Go.Proofs.Ytpocafiihdnnlaa
