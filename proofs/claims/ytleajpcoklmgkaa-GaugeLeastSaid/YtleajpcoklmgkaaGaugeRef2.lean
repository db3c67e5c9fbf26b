/- The document's own order is gauge's. -/
import Derived.Test.YtleajpcoklmgkaaGaugeRef
namespace Go.Proofs.Ytleajpcoklmgkaa
set_option linter.unusedVariables false
open Go.ChangeShapes Go.WideShapes Go.ChangeAt Go.RowKit

theorem bits_num (a : Nat) (h : Gm.kind a ≠ 0) : Gm.bits a = a := by unfold Gm.bits; rw [if_neg h]
theorem bits_nan (a : Nat) (h : Gm.kind a = 0) : Gm.bits a = 9221120237041090560 := by unfold Gm.bits; rw [if_pos h]
theorem num_low (a : Nat) (ha : a < 18446744073709551616) (h : Gm.kind a ≠ 0) : a % 9223372036854775808 ≤ 9218868437227405312 := by
  have hn : ¬ (Gm.ex a = 2047 ∧ Gm.fr a ≠ 0) := fun c => h ((Gm.kind_nan a).2 c)
  unfold Gm.ex Gm.fr at hn
  omega
theorem compare_eq (a b : Nat) (h : Gm.bits a = Gm.bits b) : Gm.compare a b = 0 := by
  unfold Gm.compare
  rw [Gm.cmp_zero]
  unfold Gm.place
  rw [h]
theorem compare_nan (a b : Nat) (hb : b < 18446744073709551616) (h : Gm.bits a ≠ Gm.bits b) (hk : Gm.kind a = 0) : Gm.compare a b = 1 := by
  have hl : Gm.kind b ≠ 0 := fun c => h (by rw [bits_nan a hk, bits_nan b c])
  have := num_low b hb hl
  unfold Gm.compare Gm.place
  rw [bits_nan a hk, bits_num b hl]
  unfold Gm.cmp
  split <;> split <;> (try split) <;> omega
theorem compare_nan2 (a b : Nat) (ha : a < 18446744073709551616) (hk : Gm.kind a ≠ 0) (hl : Gm.kind b = 0) : Gm.compare a b = -1 := by
  have := num_low a ha hk
  unfold Gm.compare Gm.place
  rw [bits_nan b hl, bits_num a hk]
  unfold Gm.cmp
  split <;> split <;> (try split) <;> omega
theorem compare_rest (a b : Nat) (h : Gm.bits a ≠ Gm.bits b) (hk : Gm.kind a ≠ 0) (hl : Gm.kind b ≠ 0) : rest a b = Gm.compare a b := by
  rw [bits_num a hk, bits_num b hl] at h
  unfold rest Gm.compare Gm.place Gm.neg Gm.cmp
  rw [bits_num a hk, bits_num b hl]
  by_cases p : 9223372036854775808 ≤ a <;> by_cases q : 9223372036854775808 ≤ b <;> by_cases r : a < b
  all_goals
    simp only [p, q, r, decide_true, decide_false, if_true, if_false, Bool.false_eq_true, Bool.true_eq_false]
    (try split) <;> (try split) <;> omega

theorem rcompare_any (a b : Nat) (w : World) (ha : a < 18446744073709551616) (hb : b < 18446744073709551616) :
    Calls Try.prog 16 #[.int .u64 (a : Int), .int .u64 (b : Int)] w fun e w' => e = .returned (.int .i64 (Gm.compare a b)) ∧ w = w' := by
  by_cases h : Gm.bits a = Gm.bits b
  · rw [compare_eq a b h]; exact rcompare_eq a b w ha hb h
  · by_cases hk : Gm.kind a = 0
    · rw [compare_nan a b hb h hk]; exact rcompare_nan a b w ha hb h hk
    · by_cases hl : Gm.kind b = 0
      · rw [compare_nan2 a b ha hk hl]; exact rcompare_nan2 a b w ha hb h hk hl
      · rw [← compare_rest a b h hk hl]; exact rcompare_rest a b w ha hb h hk hl
end Go.Proofs.Ytleajpcoklmgkaa
