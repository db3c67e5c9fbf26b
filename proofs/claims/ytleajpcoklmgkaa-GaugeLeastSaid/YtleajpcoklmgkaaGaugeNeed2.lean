/- Contracts of gauge.Need where the rate and the number may be. -/
import Derived.Test.YtleajpcoklmgkaaGaugeNeed
namespace Go.Proofs.Ytleajpcoklmgkaa
open Go.ChangeShapes Go.WideShapes Go.ChangeAt Go.RowKit

theorem cvt_k (k : Nat) (hk : k ≤ 1000) : IntKind.u64.wrap (k : Int) = (k : Int) := u64_of k (by omega)

theorem need_zero (n k : Nat) (w : World) (hn : n < 18446744073709551616) (hr : Gm.rateB n = true) (hk : k ≤ 1000) (h0 : prod n k = 0) :
    Calls Try.prog 21 #[.float .f64 n, .int .i64 (k : Int)] w fun e w' => e = .returned (.tuple #[.int .i64 0, .int .i64 0]) ∧ w = w' := by
  have h1 : decide (1000 < (k : Int)) = false := by simp; omega
  have h2 : decide ((k : Int) < 0) = false := by simp
  have h3 := prod_eq n k hk
  have h4 : ((prod n k : Int) == 0) = true := by simp; omega
  clear h0
  go_enter Try.func21, Try.ntmps21
  go_wp2_with (first | (go_at_call 36; refine (isRate_any _ _ hn).mono ?_; rintro e w' ⟨rfl, rfl⟩) | (go_at_call 37; refine (amount_any _ _ hn).mono ?_; rintro e w' ⟨rfl, rfl⟩))
  go_ret2
  exact ⟨rfl, rfl⟩

theorem need_range (n k : Nat) (w : World) (hn : n < 18446744073709551616) (hr : Gm.rateB n = true) (hk : k ≤ 1000) (h0 : prod n k ≠ 0) (hL : 62 < ((prod n k).log2 : Int) + 1 + Gm.pw n) :
    Calls Try.prog 21 #[.float .f64 n, .int .i64 (k : Int)] w fun e w' => e = .returned (.tuple #[.int .i64 0, .int .i64 2]) ∧ w = w' := by
  have h1 : decide (1000 < (k : Int)) = false := by simp; omega
  have h2 : decide ((k : Int) < 0) = false := by simp
  have h3 := prod_eq n k hk
  have h4 : ((prod n k : Int) == 0) = false := by simp; omega
  have hp := prod_lt n k hk
  have hb := Gm.pw_bd n
  have hl : (prod n k).log2 < 64 := (Nat.log2_lt h0).2 (by omega)
  have hp' : prod n k < 18446744073709551616 := by omega
  go_enter Try.func21, Try.ntmps21
  go_wp2_with (first | (go_at_call 36; refine (isRate_any _ _ hn).mono ?_; rintro e w' ⟨rfl, rfl⟩) | (go_at_call 37; refine (amount_any _ _ hn).mono ?_; rintro e w' ⟨rfl, rfl⟩) | (go_at_call 38; refine (len64_any _ _ h0 hp').mono ?_; rintro e w' ⟨rfl, rfl⟩))
  go_ret2
  exact ⟨rfl, rfl⟩

theorem need_up (n k p : Nat) (w : World) (hn : n < 18446744073709551616) (hr : Gm.rateB n = true) (hk : k ≤ 1000) (h0 : prod n k ≠ 0) (hpw : Gm.pw n = (p : Int)) (hL : ((prod n k).log2 : Int) + 1 + p ≤ 62) :
    Calls Try.prog 21 #[.float .f64 n, .int .i64 (k : Int)] w fun e w' => e = .returned (.tuple #[.int .i64 (prod n k * 2 ^ p : Nat), .int .i64 0]) ∧ w = w' := by
  have h1 : decide (1000 < (k : Int)) = false := by simp; omega
  have h2 : decide ((k : Int) < 0) = false := by simp
  have h3 := prod_eq n k hk
  have h4 : ((prod n k : Int) == 0) = false := by simp; omega
  have hp := prod_lt n k hk
  have hb := Gm.pw_bd n
  have hl : (prod n k).log2 < 64 := (Nat.log2_lt h0).2 (by omega)
  have hp' : prod n k < 18446744073709551616 := by omega
  have hd : decide (62 < ((prod n k).log2 : Int) + 1 + p) = false := by simp; omega
  have hfit : prod n k * 2 ^ p < 4611686018427387904 := by
    have a := @Nat.lt_log2_self (prod n k)
    have b : 2 ^ ((prod n k).log2 + 1) * 2 ^ p ≤ 2 ^ 62 := by rw [← Nat.pow_add]; exact Nat.pow_le_pow_right (by omega) (by omega)
    have c : prod n k * 2 ^ p < 2 ^ ((prod n k).log2 + 1) * 2 ^ p := Nat.mul_lt_mul_of_pos_right a (Nat.two_pow_pos _)
    omega
  have r : wrap64 (IntKind.u64.wrap ((prod n k : Int) * 2 ^ p)) = ((prod n k * 2 ^ p : Nat) : Int) := by
    rw [cast_pow, ← Int.natCast_mul, u64_of _ (by omega), wrap64_of _ (by omega) (by omega)]
  have R := Lib.hid r
  clear r hfit
  go_enter Try.func21, Try.ntmps21
  go_wp2_with (first | (go_at_call 36; refine (isRate_any _ _ hn).mono ?_; rintro e w' ⟨rfl, rfl⟩) | (go_at_call 37; refine (amount_any _ _ hn).mono ?_; rintro e w' ⟨rfl, rfl⟩) | (go_at_call 38; refine (len64_any _ _ h0 hp').mono ?_; rintro e w' ⟨rfl, rfl⟩))
  go_ret2
  exact ⟨ret_int2 R.out rfl, rfl⟩

theorem need_down (n k p : Nat) (w : World) (hn : n < 18446744073709551616) (hr : Gm.rateB n = true) (hk : k ≤ 1000) (h0 : prod n k ≠ 0) (hp1 : 1 ≤ p) (hpw : Gm.pw n = -(p : Int)) :
    Calls Try.prog 21 #[.float .f64 n, .int .i64 (k : Int)] w fun e w' => e = .returned (.tuple #[.int .i64 (up (prod n k) p : Nat), .int .i64 0]) ∧ w = w' := by
  have h1 : decide (1000 < (k : Int)) = false := by simp; omega
  have h2 : decide ((k : Int) < 0) = false := by simp
  have h3 := prod_eq n k hk
  have h4 : ((prod n k : Int) == 0) = false := by simp; omega
  have hp := prod_lt n k hk
  have hb := Gm.pw_bd n
  have hpb : p ≤ 1074 := by omega
  clear hb
  have hl : (prod n k).log2 < 63 := (Nat.log2_lt h0).2 (by omega)
  have hp' : prod n k < 18446744073709551616 := by omega
  have hup : up (prod n k) p ≤ 9007199254740991000 := by
    have := Gm.half_le (prod n k) p hp1 (prod n k % 2 ^ p != 0)
    unfold up
    omega
  have r : wrap64 (up (prod n k) p : Nat) = ((up (prod n k) p : Nat) : Int) := wrap64_of _ (by omega) (by omega)
  go_enter Try.func21, Try.ntmps21
  go_wp2_with (first | (go_at_call 36; refine (isRate_any _ _ hn).mono ?_; rintro e w' ⟨rfl, rfl⟩) | (go_at_call 37; refine (amount_any _ _ hn).mono ?_; rintro e w' ⟨rfl, rfl⟩) | (go_at_call 38; refine (len64_any _ _ h0 hp').mono ?_; rintro e w' ⟨rfl, rfl⟩) | (go_at_call 39; refine (shiftUp_any _ _ _ hp').mono ?_; rintro e w' ⟨rfl, rfl⟩))
  go_ret2
  exact ⟨rfl, rfl⟩
end Go.Proofs.Ytleajpcoklmgkaa
