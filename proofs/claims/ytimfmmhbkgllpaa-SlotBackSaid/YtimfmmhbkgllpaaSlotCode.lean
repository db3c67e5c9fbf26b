/- Contracts of slot's small calls: fits, Right, sizes. -/
import Derived.Test.YtimfmmhbkgllpaaSlotRight
import Derived.Laws.Rows
import Derived.Laws.Tables
import Derived.Laws.ResultCell
import Derived.Laws.OwnMore
import Derived.Deep.RegionHeld3
import Derived.Deep.QuietTactic
import Derived.BigQuiet
import Derived.Outline
namespace Go.Proofs.Ytimfmmhbkgllpaa
open Go.RowKit
set_option linter.unusedVariables false

/-- A slot's value: a struct that holds a struct lies flat. -/
def Sv (t a n : Int) (g : Nat) : Value := .agg #[.int .i64 t, .int .i64 a, .int .i64 n, .int .u32 (g : Int)]
/-- fits, of any extent. -/
theorem fits_any (a n : Int) (w : World) (hm : n < 9223372036854775808) : Calls Try.prog 18 #[.agg #[.int .i64 a, .int .i64 n]] w fun e w' => e = .returned (.bool (Tm.okF a n)) ∧ Below w.heap.size w w' := by
  have HB : Hid (Below w.heap.size w (w.alloc (.cells #[.int .i64 a, .int .i64 n] 24))) := (Below.refl _ w).alloc (Nat.le_refl _) _
  by_cases h1 : 1 ≤ n
  · have d1 : decide (1 ≤ n) = true := by simpa using h1
    by_cases h2 : 0 ≤ a
    · have d2 : decide (0 ≤ a) = true := by simpa using h2
      have e3 : IntKind.i64.wrap (1048576 - n) = 1048576 - n := IntWalk.i64_in _ (by omega)
      have hr : Tm.okF a n = decide (a ≤ 1048576 - n) := by unfold Tm.okF; rw [d1, d2]; rfl
      have HR := Lib.hid hr
      clear hr h1 h2 hm
      go_enter Try.func18, Try.ntmps18
      go_wp2_with fail
      go_ret
      exact ⟨by rw [HR.out]; rfl, HB.out⟩
    · have d2 : decide (0 ≤ a) = false := by simpa using h2
      have hr : Tm.okF a n = false := by unfold Tm.okF; rw [d2]; simp
      have HR := Lib.hid hr
      clear hr h1 h2 hm
      go_enter Try.func18, Try.ntmps18
      go_wp2_with fail
      go_ret
      exact ⟨by rw [HR.out]; rfl, HB.out⟩
  · have d1 : decide (1 ≤ n) = false := by simpa using h1
    have hr : Tm.okF a n = false := by unfold Tm.okF; rw [d1]; rfl
    have HR := Lib.hid hr
    clear hr h1 hm
    go_enter Try.func18, Try.ntmps18
    go_wp2_with fail
    go_ret
    exact ⟨by rw [HR.out]; rfl, HB.out⟩
theorem sright_any (t a n : Int) (g : Nat) (w : World) (hn : n < 9223372036854775808) : Calls Try.prog 9 #[Sv t a n g] w fun e w' => e = .returned (.bool (Tm.okT t a n g)) ∧ Below w.heap.size w w' := by
  unfold Sv
  by_cases h0 : t = 0
  · subst h0
    have HB : Hid (Below w.heap.size w (w.alloc (.cells #[.int .i64 0, .int .i64 a, .int .i64 n, .int .u32 (g : Int)] 27))) := (Below.refl _ w).alloc (Nat.le_refl _) _
    by_cases ha : a = 0
    · subst ha
      by_cases hn0 : n = 0
      · subst hn0
        have HR := Lib.hid (show Tm.okT 0 0 0 g = true from rfl)
        go_enter Try.func9, Try.ntmps9
        go_wp2_with fail
        go_ret
        exact ⟨by rw [HR.out]; rfl, HB.out⟩
      · have d2 : (n == 0) = false := by simpa using hn0
        have hr : Tm.okT 0 0 n g = false := by rw [Tm.okT_free]; simp [hn0]
        have HR := Lib.hid hr
        clear hr hn0 hn
        go_enter Try.func9, Try.ntmps9
        go_wp2_with fail
        go_ret
        exact ⟨by rw [HR.out]; rfl, HB.out⟩
    · have d1 : (a == 0) = false := by simpa using ha
      have hr : Tm.okT 0 a n g = false := by rw [Tm.okT_free]; simp [ha]
      have HR := Lib.hid hr
      clear hr ha hn
      go_enter Try.func9, Try.ntmps9
      go_wp2_with fail
      go_ret
      exact ⟨by rw [HR.out]; rfl, HB.out⟩
  · by_cases h1 : t = 1
    · subst h1
      have HB : Hid (Below w.heap.size w (w.alloc (.cells #[.int .i64 1, .int .i64 a, .int .i64 n, .int .u32 (g : Int)] 27))) := (Below.refl _ w).alloc (Nat.le_refl _) _
      by_cases k1 : 1 ≤ g
      · have d1 : decide (1 ≤ (g : Int)) = true := by simp; omega
        have hr : Tm.okT 1 a n g = Tm.okF a n := by rw [Tm.okT_used]; simp [k1]
        have HR := Lib.hid hr
        have FI := Lib.hid (fun w1 => fits_any a n w1 hn)
        clear hr k1 hn
        go_enter Try.func9, Try.ntmps9
        go_wp2_with fail
        refine (FI.out _).mono ?_
        rintro e w1 ⟨rfl, hb⟩
        have HB1 := Lib.hid (HB.out.trans (hb.mono HB.out.size))
        clear hb
        go_wp2
        go_ret
        exact ⟨by rw [HR.out]; rfl, HB1.out⟩
      · have d1 : decide (1 ≤ (g : Int)) = false := by simp; omega
        have hr : Tm.okT 1 a n g = false := by rw [Tm.okT_used]; simp [k1]
        have HR := Lib.hid hr
        clear hr k1 hn
        go_enter Try.func9, Try.ntmps9
        go_wp2_with fail
        go_ret
        exact ⟨by rw [HR.out]; rfl, HB.out⟩
    · by_cases h2 : t = 2
      · subst h2
        have HB : Hid (Below w.heap.size w (w.alloc (.cells #[.int .i64 2, .int .i64 a, .int .i64 n, .int .u32 (g : Int)] 27))) := (Below.refl _ w).alloc (Nat.le_refl _) _
        by_cases k1 : 1 ≤ g
        · have d1 : decide (1 ≤ (g : Int)) = true := by simp; omega
          have hr : Tm.okT 2 a n g = Tm.okF a n := by rw [Tm.okT_merging]; simp [k1]
          have HR := Lib.hid hr
          have FI := Lib.hid (fun w1 => fits_any a n w1 hn)
          clear hr k1 hn
          go_enter Try.func9, Try.ntmps9
          go_wp2_with fail
          refine (FI.out _).mono ?_
          rintro e w1 ⟨rfl, hb⟩
          have HB1 := Lib.hid (HB.out.trans (hb.mono HB.out.size))
          clear hb
          go_wp2
          go_ret
          exact ⟨by rw [HR.out]; rfl, HB1.out⟩
        · have d1 : decide (1 ≤ (g : Int)) = false := by simp; omega
          have hr : Tm.okT 2 a n g = false := by rw [Tm.okT_merging]; simp [k1]
          have HR := Lib.hid hr
          clear hr k1 hn
          go_enter Try.func9, Try.ntmps9
          go_wp2_with fail
          go_ret
          exact ⟨by rw [HR.out]; rfl, HB.out⟩
      · have t0 : (t == 0) = false := by simpa using h0
        have t1 : (t == 1) = false := by simpa using h1
        have t2 : (t == 2) = false := by simpa using h2
        have HR := Lib.hid (Tm.okT_else t a n g h0 h1 h2)
        clear h0 h1 h2 hn
        have HB : Hid (Below w.heap.size w (w.alloc (.cells #[.int .i64 t, .int .i64 a, .int .i64 n, .int .u32 (g : Int)] 27))) := (Below.refl _ w).alloc (Nat.le_refl _) _
        go_enter Try.func9, Try.ntmps9
        go_wp2_with fail
        go_ret
        exact ⟨by rw [HR.out]; rfl, HB.out⟩
theorem ssizes_any (w : World) : Calls Try.prog 14 #[] w fun e w' => e = .returned (.slice (some ⟨w.heap.size, 0, none⟩) 4 4) ∧ Row w' w'.heap.size (some ⟨w.heap.size, 0, none⟩) 4 (szs Tm.zs) ∧ Below w.heap.size w w' := by
  have hown : (w.alloc (.cells #[.int .i64 1, .int .i64 4, .int .i64 4, .int .i64 4] 3)).ownsRow w.heap.size 3 1 (.slice (some ⟨w.heap.size, 0, none⟩) 4 4) 4 [.int .i64 1, .int .i64 4, .int .i64 4, .int .i64 4] := World.ownsRow_lit w #[.int .i64 1, .int .i64 4, .int .i64 4, .int .i64 4] 4 (Nat.le_refl _) (by unfold maxLen; omega) rfl
  have hrow : Row (w.alloc (.cells #[.int .i64 1, .int .i64 4, .int .i64 4, .int .i64 4] 3)) (w.alloc (.cells #[.int .i64 1, .int .i64 4, .int .i64 4, .int .i64 4] 3)).heap.size (some ⟨w.heap.size, 0, none⟩) 4 (szs Tm.zs) := Row.own hown (fun i hi => by
    match i, hi with
    | 0, _ => rfl
    | 1, _ => rfl
    | 2, _ => rfl
    | 3, _ => rfl)
  have HB : Hid (Below w.heap.size w (w.alloc (.cells #[.int .i64 1, .int .i64 4, .int .i64 4, .int .i64 4] 3))) := (Below.refl _ w).alloc (Nat.le_refl _) _
  have HR := Lib.hid hrow
  clear hown hrow
  go_enter Try.func14, Try.ntmps14
  go_wp2
  go_ret
  exact ⟨rfl, HR.out, HB.out⟩
end Go.Proofs.Ytimfmmhbkgllpaa
