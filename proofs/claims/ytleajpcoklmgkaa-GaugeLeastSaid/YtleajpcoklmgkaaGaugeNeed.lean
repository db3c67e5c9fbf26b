/- Contracts of gauge.Need and what it calls. -/
import Derived.Test.YtleajpcoklmgkaaGaugeFloor
import Derived.Test.YtleajpcoklmgkaaGaugeLen
namespace Go.Proofs.Ytleajpcoklmgkaa
open Go.ChangeShapes Go.WideShapes Go.ChangeAt Go.RowKit

theorem amount_any (n : Nat) (w : World) (hn : n < 18446744073709551616) :
    Calls Try.prog 37 #[.float .f64 n] w fun e w' => e = .returned (.tuple #[.int .u64 (Gm.mag n), .int .i64 (Gm.pw n)]) ∧ w = w' := by
  have hx := Gm.ex_lt n
  have hf := Gm.fr_lt n
  unfold Gm.mag Gm.pw
  by_cases h : Gm.ex n = 0
  · have a1 : ((Gm.ex n : Int) == 0) = true := by simp; omega
    rw [if_pos h, if_pos h]
    clear h
    go_enter Try.func37, Try.ntmps37
    go_wp2_with (go_at_call 26; refine (parts_any _ _ hn).mono ?_; rintro e w' ⟨rfl, rfl⟩)
    go_ret2
    exact ⟨rfl, rfl⟩
  · have a1 : ((Gm.ex n : Int) == 0) = false := by simp; omega
    rw [if_neg h, if_neg h]
    go_enter Try.func37, Try.ntmps37
    go_wp2_with (go_at_call 26; refine (parts_any _ _ hn).mono ?_; rintro e w' ⟨rfl, rfl⟩)
    go_ret2
    exact ⟨ret_int2 (by omega) (by omega), rfl⟩

theorem isRate_any (n : Nat) (w : World) (hn : n < 18446744073709551616) :
    Calls Try.prog 36 #[.float .f64 n] w fun e w' => e = .returned (.bool (Gm.rateB n)) ∧ w = w' := by
  by_cases hx : Gm.ex n = 2047
  · have hr : Gm.rateB n = false := by unfold Gm.rateB; simp [hx]
    rw [hr]
    by_cases hf : Gm.fr n = 0
    · have k : (Gm.kind n != 1) = false := by simp; exact (Gm.kind_inf n).2 ⟨hx, hf⟩
      clear hr hf hx
      cases a : (FloatKind.f64.format.order n 0 == some .gt || FloatKind.f64.format.order n 0 == some .eq)
      · go_enter Try.func36, Try.ntmps36
        go_wp2_with (go_at_call 13; refine (kind_any _ _ hn).mono ?_; rintro e w' ⟨rfl, rfl⟩)
        go_ret
        exact ⟨rfl, rfl⟩
      · go_enter Try.func36, Try.ntmps36
        go_wp2_with (go_at_call 13; refine (kind_any _ _ hn).mono ?_; rintro e w' ⟨rfl, rfl⟩)
        go_ret
        exact ⟨rfl, rfl⟩
    · have a : (FloatKind.f64.format.order n 0 == some .gt || FloatKind.f64.format.order n 0 == some .eq) = false := Gm.order_null_nan n hx hf
      clear hr hf hx
      go_enter Try.func36, Try.ntmps36
      go_wp2_with (go_at_call 13; refine (kind_any _ _ hn).mono ?_; rintro e w' ⟨rfl, rfl⟩)
      go_ret
      exact ⟨rfl, rfl⟩
  · have a : (FloatKind.f64.format.order n 0 == some .gt || FloatKind.f64.format.order n 0 == some .eq) = Gm.rateB n := Gm.order_null n hn hx
    have k : (Gm.kind n != 1) = true := by simp; exact fun c => hx ((Gm.kind_inf n).1 c).1
    clear hx
    cases hr : Gm.rateB n
    · rw [hr] at a
      clear hr
      go_enter Try.func36, Try.ntmps36
      go_wp2_with (go_at_call 13; refine (kind_any _ _ hn).mono ?_; rintro e w' ⟨rfl, rfl⟩)
      go_ret
      exact ⟨rfl, rfl⟩
    · rw [hr] at a
      clear hr
      go_enter Try.func36, Try.ntmps36
      go_wp2_with (go_at_call 13; refine (kind_any _ _ hn).mono ?_; rintro e w' ⟨rfl, rfl⟩)
      go_ret
      exact ⟨rfl, rfl⟩

/-- n divided by 2^k, rounded up. -/
def up (n k : Nat) : Nat := n / 2 ^ k + (n % 2 ^ k != 0).toNat

theorem min_div (n k : Nat) (hn : n < 18446744073709551616) : n / 2 ^ min k 64 = n / 2 ^ k ∧ n % 2 ^ min k 64 = n % 2 ^ k := by
  by_cases h : k ≤ 64
  · rw [Nat.min_eq_left h]; exact ⟨rfl, rfl⟩
  · rw [Nat.min_eq_right (by omega)]
    have h1 : n < 2 ^ 64 := hn
    have h2 : n < 2 ^ k := Nat.lt_of_lt_of_le h1 (Nat.pow_le_pow_right (by omega) (by omega))
    rw [Nat.div_eq_of_lt h1, Nat.div_eq_of_lt h2, Nat.mod_eq_of_lt h1, Nat.mod_eq_of_lt h2]
    exact ⟨rfl, rfl⟩
theorem cast_pow (j : Nat) : ((2 : Int) ^ j) = ((2 ^ j : Nat) : Int) := by rw [Int.natCast_pow]; rfl
theorem cast_div (n j : Nat) : (n : Int) / 2 ^ j = ((n / 2 ^ j : Nat) : Int) := by rw [cast_pow]; rfl
theorem u64_of (n : Nat) (h : n < 18446744073709551616) : IntKind.u64.wrap (n : Int) = (n : Int) := by rw [IntKind.wrap_u64]; omega
theorem down_up (n k : Nat) (hn : n < 18446744073709551616) :
    IntKind.u64.wrap ((n : Int) / 2 ^ min k 64 * 2 ^ min k 64) = ((n - n % 2 ^ k : Nat) : Int) := by
  obtain ⟨h1, h2⟩ := min_div n k hn
  have h3 := Nat.div_add_mod n (2 ^ min k 64)
  rw [cast_div, cast_pow, ← Int.natCast_mul]
  rw [Nat.mul_comm] at h3
  rw [show n / 2 ^ min k 64 * 2 ^ min k 64 = n - n % 2 ^ k from by omega]
  exact u64_of _ (by omega)

theorem shiftUp_any (n k : Nat) (w : World) (hn : n < 18446744073709551616) :
    Calls Try.prog 39 #[.int .u64 (n : Int), .int .i64 (k : Int)] w fun e w' => e = .returned (.int .u64 (up n k : Nat)) ∧ w = w' := by
  have hd := down_up n k hn
  obtain ⟨h1, h2⟩ := min_div n k hn
  have hle := Nat.mod_le n (2 ^ k)
  by_cases h0 : n % 2 ^ k = 0
  · have a : (IntKind.u64.wrap ((n : Int) / 2 ^ min k 64 * 2 ^ min k 64) != (n : Int)) = false := by rw [hd]; simp; omega
    have r : ((n : Int) / 2 ^ min k 64) = (up n k : Nat) := by rw [cast_div, h1]; unfold up; rw [h0]; simp
    have R := Lib.hid r
    clear hd h1 h2 hle h0 r
    go_enter Try.func39, Try.ntmps39
    go_wp2
    go_ret
    exact ⟨ret_int R.out, rfl⟩
  · have a : (IntKind.u64.wrap ((n : Int) / 2 ^ min k 64 * 2 ^ min k 64) != (n : Int)) = true := by rw [hd]; simp; omega
    have r : IntKind.u64.wrap ((n : Int) / 2 ^ min k 64 + 1) = (up n k : Nat) := by
      rw [cast_div, h1]
      unfold up
      rw [show (n % 2 ^ k != 0) = true from by simpa using h0]
      have : n / 2 ^ k ≤ n - n % 2 ^ k := by
        have h3 := Nat.div_add_mod n (2 ^ k)
        have hp := Nat.two_pow_pos k
        have : n / 2 ^ k ≤ 2 ^ k * (n / 2 ^ k) := Nat.le_mul_of_pos_left _ hp
        omega
      exact u64_of (n / 2 ^ k + 1) (by omega)
    have R := Lib.hid r
    clear hd h1 h2 hle h0 r
    go_enter Try.func39, Try.ntmps39
    go_wp2
    go_ret
    exact ⟨ret_int R.out, rfl⟩

def prod (n k : Nat) : Nat := Gm.mag n * k
theorem prod_lt (n k : Nat) (hk : k ≤ 1000) : prod n k ≤ 9007199254740991000 := by
  have h := Gm.mag_lt n
  unfold prod
  have : Gm.mag n * k ≤ 9007199254740991 * 1000 := Nat.mul_le_mul (by omega) hk
  omega
theorem prod_eq (n k : Nat) (hk : k ≤ 1000) : IntKind.u64.wrap ((Gm.mag n : Int) * (k : Int)) = (prod n k : Int) := by
  have h := prod_lt n k hk
  rw [← Int.natCast_mul]
  exact u64_of (prod n k) (by omega)

theorem need_norate (n : Nat) (k : Int) (w : World) (hn : n < 18446744073709551616) (hr : Gm.rateB n = false) :
    Calls Try.prog 21 #[.float .f64 n, .int .i64 k] w fun e w' => e = .returned (.tuple #[.int .i64 0, .int .i64 1]) ∧ w = w' := by
  go_enter Try.func21, Try.ntmps21
  go_wp2_with (go_at_call 36; refine (isRate_any _ _ hn).mono ?_; rintro e w' ⟨rfl, rfl⟩)
  go_ret2
  exact ⟨rfl, rfl⟩
theorem need_low (n : Nat) (k : Int) (w : World) (hn : n < 18446744073709551616) (hr : Gm.rateB n = true) (hk : k < 0) :
    Calls Try.prog 21 #[.float .f64 n, .int .i64 k] w fun e w' => e = .returned (.tuple #[.int .i64 0, .int .i64 1]) ∧ w = w' := by
  go_enter Try.func21, Try.ntmps21
  go_wp2_with (go_at_call 36; refine (isRate_any _ _ hn).mono ?_; rintro e w' ⟨rfl, rfl⟩)
  go_ret2
  exact ⟨rfl, rfl⟩
theorem need_high (n : Nat) (k : Int) (w : World) (hn : n < 18446744073709551616) (hr : Gm.rateB n = true) (hk : 1000 < k) :
    Calls Try.prog 21 #[.float .f64 n, .int .i64 k] w fun e w' => e = .returned (.tuple #[.int .i64 0, .int .i64 1]) ∧ w = w' := by
  have h2 : decide (k < 0) = false := by simp; omega
  go_enter Try.func21, Try.ntmps21
  go_wp2_with (go_at_call 36; refine (isRate_any _ _ hn).mono ?_; rintro e w' ⟨rfl, rfl⟩)
  go_ret2
  exact ⟨rfl, rfl⟩
end Go.Proofs.Ytleajpcoklmgkaa
