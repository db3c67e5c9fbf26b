/- Contracts of gauge.Floor and what it calls. -/
import Derived.Test.YtleajpcoklmgkaaGaugeCmp
import Derived.Test.YtleajpcoklmgkaaGaugeReal
namespace Go.Proofs.Ytleajpcoklmgkaa
open Go.ChangeShapes Go.WideShapes Go.ChangeAt Go.RowKit

theorem andNot_top (n : Nat) (hn : n < 18446744073709551616) : bits .andNot .u64 (n : Int) 9223372036854775808 = ((n % 9223372036854775808 : Nat) : Int) := by
  have h := u64_andNot_nat n 9223372036854775808 hn (by omega)
  rw [show 18446744073709551615 - 9223372036854775808 = 9223372036854775807 from rfl, Gm.and_63] at h
  exact h

def absn (n : Nat) : Nat := n % 9223372036854775808

theorem abs_any (n : Nat) (w : World) (hn : n < 18446744073709551616) :
    Calls Try.prog 32 #[.float .f64 n] w fun e w' => e = .returned (.float .f64 (absn n)) ∧ w = w' := by
  have h := @run_bits
  have h2 := run_frombits (absn n)
  have h3 : bits .andNot .u64 (n : Int) 9223372036854775808 = (absn n : Int) := andNot_top n hn
  go_enter Try.func32, Try.ntmps32
  go_wp2
  go_ret
  exact ⟨rfl, rfl⟩

def flo (n : Nat) : Nat := FloatKind.f64.encode ((Ieee.Datum.number (Gm.neg n) (Gm.mag n) (Gm.pw n)).integral .down)

theorem mfloor_any (n : Nat) (w : World) (hn : n < 18446744073709551616) (hx : Gm.ex n ≠ 2047) :
    Calls Try.prog 33 #[.float .f64 n] w fun e w' => e = .returned (.float .f64 (flo n)) ∧ w = w' := by
  have h := fun w => run_archFloor n _ _ _ (Gm.read_num n hn hx) w
  have h' : ∀ w, (callFunc 41 #[.float .f64 n]).run Try.prog w = .ok (.value (.float .f64 (flo n))) w := h
  clear h hx
  go_enter Try.func33, Try.ntmps33
  go_wp2
  go_ret
  exact ⟨rfl, rfl⟩

theorem flo_int (n : Nat) (h : Gm.ex n < 1085) : floatToIntVal .f64 (flo n) .i64 = some (Gm.floorV n) := by
  have h1 := Gm.floor_back n h
  have h2 := (Gm.floorMag_ok n h).2
  unfold floatToIntVal
  have h3 : (FloatKind.f64.decode (flo n)).toInt .zero = some (Gm.floorV n) := h1
  rw [h3]
  have h4 : IntKind.i64.min ≤ Gm.floorV n ∧ Gm.floorV n ≤ IntKind.i64.max := by
    have e1 : IntKind.i64.min = -9223372036854775808 := by decide
    have e2 : IntKind.i64.max = 9223372036854775807 := by decide
    rw [e1, e2]
    unfold Gm.floorV
    split <;> omega
  simp only []
  rw [if_pos h4]

theorem floor_nan (n : Nat) (w : World) (hn : n < 18446744073709551616) (hk : Gm.kind n = 0) :
    Calls Try.prog 19 #[.float .f64 n] w fun e w' => e = .returned (.tuple #[.int .i64 0, .int .i64 2]) ∧ w = w' := by
  have a1 : (Gm.kind n == 0) = true := by simp; omega
  clear hk
  go_enter Try.func19, Try.ntmps19
  go_wp2_with (go_at_call 13; refine (kind_any _ _ hn).mono ?_; rintro e w' ⟨rfl, rfl⟩)
  go_ret2
  exact ⟨rfl, rfl⟩

theorem floor_big (n : Nat) (w : World) (hn : n < 18446744073709551616) (hk : Gm.kind n ≠ 0) (hx : 1085 ≤ Gm.ex n) :
    Calls Try.prog 19 #[.float .f64 n] w fun e w' => e = .returned (.tuple #[.int .i64 0, .int .i64 2]) ∧ w = w' := by
  have a1 : (Gm.kind n == 0) = false := by simp; omega
  have a2 : (FloatKind.f64.format.order (absn n) 4886405595696988160 == some .gt || FloatKind.f64.format.order (absn n) 4886405595696988160 == some .eq) = true := by
    have := Gm.order_limit n hk
    rw [show decide (1085 ≤ Gm.ex n) = true from by simpa using hx] at this
    exact this
  clear hk hx
  go_enter Try.func19, Try.ntmps19
  go_wp2_with (first | (go_at_call 13; refine (kind_any _ _ hn).mono ?_; rintro e w' ⟨rfl, rfl⟩) | (go_at_call 32; refine (abs_any _ _ hn).mono ?_; rintro e w' ⟨rfl, rfl⟩))
  go_ret2
  exact ⟨rfl, rfl⟩

theorem floor_ok (n : Nat) (w : World) (hn : n < 18446744073709551616) (hx : Gm.ex n < 1085) :
    Calls Try.prog 19 #[.float .f64 n] w fun e w' => e = .returned (.tuple #[.int .i64 (Gm.floorV n), .int .i64 0]) ∧ w = w' := by
  have hk : Gm.kind n ≠ 0 := fun c => by have := (Gm.kind_nan n).1 c; omega
  have a1 : (Gm.kind n == 0) = false := by simp; omega
  have a2 : (FloatKind.f64.format.order (absn n) 4886405595696988160 == some .gt || FloatKind.f64.format.order (absn n) 4886405595696988160 == some .eq) = false := by
    have := Gm.order_limit n hk
    rw [show decide (1085 ≤ Gm.ex n) = false from by simp; omega] at this
    exact this
  have h := fun w => run_convert_float_int (P := Try.prog) w 23 2 .f64 .i64 (flo n) (Gm.floorV n) (by kernel_rfl) Try.underlying2 (flo_int n hx)
  have hne : Gm.ex n ≠ 2047 := by omega
  clear hk hx
  go_enter Try.func19, Try.ntmps19
  go_wp2_with (first | (go_at_call 13; refine (kind_any _ _ hn).mono ?_; rintro e w' ⟨rfl, rfl⟩) | (go_at_call 32; refine (abs_any _ _ hn).mono ?_; rintro e w' ⟨rfl, rfl⟩) | (go_at_call 33; refine (mfloor_any _ _ hn hne).mono ?_; rintro e w' ⟨rfl, rfl⟩))
  go_ret2
  exact ⟨rfl, rfl⟩
end Go.Proofs.Ytleajpcoklmgkaa
