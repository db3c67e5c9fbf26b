/- Contracts of gauge.Ratio. -/
import Derived.Test.YtleajpcoklmgkaaGaugeAlive
import Derived.Test.YtleajpcoklmgkaaGaugeQuot3
namespace Go.Proofs.Ytleajpcoklmgkaa
open Go.ChangeShapes Go.WideShapes Go.ChangeAt Go.RowKit
set_option linter.unusedVariables false

theorem ratio_any (a b : Int) (r : Nat) (w : World) (h : Ieee.double.div (floatOfInt .f64 a) (floatOfInt .f64 b) = some r) :
    Calls Try.prog 23 #[.int .i64 a, .int .i64 b] w fun e w' => e = .returned (.float .f64 r) ∧ w = w' := by
  have h2 := fun w => run_float_arith (P := Try.prog) w .quo 23 .f64 (floatOfInt .f64 a) (floatOfInt .f64 b) r h
  clear h
  go_enter Try.func23, Try.ntmps23
  go_wp2
  go_ret
  exact ⟨rfl, rfl⟩

def nanOf (w : World) (x y : Nat) : Nat := (Question.nanBits .f64 x y).cut (w.tape w.drawn (.nanBits .f64 x y))
theorem nanOf_nan (w : World) (x y : Nat) : nanOf w x y < 18446744073709551616 ∧ Gm.kind (nanOf w x y) = 0 := by
  obtain ⟨t, ht⟩ : ∃ t, t = w.tape w.drawn (.nanBits .f64 x y) := ⟨_, rfl⟩
  have e : nanOf w x y = t % 2 * 9223372036854775808 + 9218868437227405312 + 1 + t / 2 % 4503599627370495 := by
    unfold nanOf
    rw [← ht]
    rfl
  rw [e]
  constructor
  · omega
  · rw [Gm.kind_nan]
    unfold Gm.ex Gm.fr
    have h1 : t % 2 = 0 ∨ t % 2 = 1 := by omega
    rcases h1 with h1 | h1 <;> rw [h1] <;> omega

theorem run_quo_nan (w : World) (t : TypeId) (x y : Nat) (h : Ieee.double.div x y = none) :
    (binOp .quo t (.float .f64 x) (.float .f64 y)).run Try.prog w = .ok (.float .f64 (nanOf w x y)) w.drew := by
  have h' : FloatKind.f64.format.div x y = none := h
  simp [binOp, Op.floatArith, h', nanOf, Question.forced]

theorem ratio_nan (a b : Int) (w : World) (h : Ieee.double.div (floatOfInt .f64 a) (floatOfInt .f64 b) = none) :
    Calls Try.prog 23 #[.int .i64 a, .int .i64 b] w fun e w' => e = .returned (.float .f64 (nanOf w (floatOfInt .f64 a) (floatOfInt .f64 b))) ∧ w' = w.drew := by
  have h2 := fun w => run_quo_nan w 23 (floatOfInt .f64 a) (floatOfInt .f64 b) h
  clear h
  go_enter Try.func23, Try.ntmps23
  go_wp2
  go_ret
  exact ⟨rfl, rfl⟩

theorem of_pos (n : Nat) : floatOfInt .f64 (n : Int) = Gm.ofInt false n := by
  show FloatKind.f64.encode (.number (decide ((n : Int) < 0)) (n : Int).natAbs 0) = _
  rw [show decide ((n : Int) < 0) = false from by simp, Int.natAbs_natCast]
  rfl
theorem of_neg (n : Nat) (h : n ≠ 0) : floatOfInt .f64 (-(n : Int)) = Gm.ofInt true n := by
  show FloatKind.f64.encode (.number (decide (-(n : Int) < 0)) (-(n : Int)).natAbs 0) = _
  rw [show decide (-(n : Int) < 0) = true from by simp; omega, Int.natAbs_neg, Int.natAbs_natCast]
  rfl
end Go.Proofs.Ytleajpcoklmgkaa
