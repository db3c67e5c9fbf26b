/- The statements' live question: it is answered true. -/
import Derived.Test.YtleajpcoklmgkaaGaugeNeed2
namespace Go.Proofs.Ytleajpcoklmgkaa
open Go.ChangeShapes Go.WideShapes Go.ChangeAt Go.RowKit

theorem of_lit (n : Int) (m : Nat) (h : n = (m : Int)) (w : World) :
    Calls Try.prog 9 #[.int .u64 n] w fun e w' => e = .returned (.float .f64 m) ∧ w = w' := by
  subst h; exact of_any m w
theorem a_need (w : World) :
    Calls Try.prog 21 #[.float .f64 4602678819172646912, .int .i64 3] w fun e w' => e = .returned (.tuple #[.int .i64 2, .int .i64 0]) ∧ w = w' := by
  have h := need_down 4602678819172646912 3 53 w (by omega) (by decide) (by omega) (by decide) (by omega) (by decide)
  rw [show up (prod 4602678819172646912 3) 53 = 2 from by decide] at h
  exact h
theorem a_floor (w : World) :
    Calls Try.prog 19 #[.float .f64 13826050856027422720] w fun e w' => e = .returned (.tuple #[.int .i64 (-1), .int .i64 0]) ∧ w = w' := by
  have h := floor_ok 13826050856027422720 w (by omega) (by decide)
  rw [show Gm.floorV 13826050856027422720 = -1 from by decide] at h
  exact h
theorem a_floor2 (w : World) :
    Calls Try.prog 19 #[.float .f64 9218868437227405312] w fun e w' => e = .returned (.tuple #[.int .i64 0, .int .i64 2]) ∧ w = w' :=
  floor_big 9218868437227405312 w (by omega) (by decide) (by decide)
theorem a_compare (w : World) :
    Calls Try.prog 15 #[.float .f64 9223372036854775808, .float .f64 0] w fun e w' => e = .returned (.int .i64 (-1)) ∧ w = w' := by
  have h := compare_any 9223372036854775808 0 w (by omega) (by omega)
  rw [show Gm.compare 9223372036854775808 0 = -1 from by decide] at h
  exact h
theorem a_kind (w : World) :
    Calls Try.prog 13 #[.float .f64 9223372036854775808] w fun e w' => e = .returned (.int .i64 2) ∧ w = w' := by
  have h := kind_any 9223372036854775808 w (by omega)
  rw [show Gm.kind 9223372036854775808 = 2 from by decide] at h
  exact h
theorem a_bits (w : World) :
    Calls Try.prog 11 #[.float .f64 4602678819172646912] w fun e w' => e = .returned (.int .u64 4602678819172646912) ∧ w = w' := by
  have h := bits_any 4602678819172646912 w (by omega)
  rw [show Gm.bits 4602678819172646912 = 4602678819172646912 from by decide] at h
  exact h

theorem alive_any (w : World) :
    Calls Try.prog 10 #[] w fun e w' => e = .returned (.bool true) ∧ w = w' := by
  go_enter Try.func10, Try.ntmps10
  go_wp2_with fail
  refine (of_lit _ 4602678819172646912 rfl _).mono ?_
  rintro e w' ⟨rfl, rfl⟩
  go_wp2_with fail
  refine (a_need _).mono ?_
  rintro e w' ⟨rfl, rfl⟩
  go_wp2_with fail
  refine (of_lit _ 13826050856027422720 rfl _).mono ?_
  rintro e w' ⟨rfl, rfl⟩
  go_wp2_with fail
  refine (a_floor _).mono ?_
  rintro e w' ⟨rfl, rfl⟩
  go_wp2_with fail
  refine (of_lit _ 9218868437227405312 rfl _).mono ?_
  rintro e w' ⟨rfl, rfl⟩
  go_wp2_with fail
  refine (a_floor2 _).mono ?_
  rintro e w' ⟨rfl, rfl⟩
  go_wp2_with fail
  refine (of_lit _ 9223372036854775808 rfl _).mono ?_
  rintro e w' ⟨rfl, rfl⟩
  go_wp2_with fail
  refine (of_lit _ 0 rfl _).mono ?_
  rintro e w' ⟨rfl, rfl⟩
  go_wp2_with fail
  refine (a_compare _).mono ?_
  rintro e w' ⟨rfl, rfl⟩
  go_wp2_with fail
  refine (a_kind _).mono ?_
  rintro e w' ⟨rfl, rfl⟩
  go_wp2_with fail
  refine (a_bits _).mono ?_
  rintro e w' ⟨rfl, rfl⟩
  go_wp2
  go_ret
  exact ⟨rfl, rfl⟩
end Go.Proofs.Ytleajpcoklmgkaa
