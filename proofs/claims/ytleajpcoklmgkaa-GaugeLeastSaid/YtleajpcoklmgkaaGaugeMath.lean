/- Plain functions on bits, and facts on them: no program is named here. -/
import Ieee.Arith
namespace Go.Proofs.Ytleajpcoklmgkaa.Gm

def ex (b : Nat) : Nat := b / 4503599627370496 % 2048
def fr (b : Nat) : Nat := b % 4503599627370496
/-- The class: 0 NaN, 1 infinite, 2 zero, 3 small, 4 normal. -/
def kind (b : Nat) : Int := if ex b = 2047 then (if fr b = 0 then 1 else 0) else if ex b = 0 then (if fr b = 0 then 2 else 3) else 4
def bits (b : Nat) : Nat := if kind b = 0 then 9221120237041090560 else b
def place (b : Nat) : Int := if 9223372036854775808 ≤ bits b then 9223372036854775807 - (bits b : Int) else (bits b : Int)
def cmp (x y : Int) : Int := if x < y then -1 else if y < x then 1 else 0
def compare (a b : Nat) : Int := cmp (place a) (place b)

theorem ex_lt (b : Nat) : ex b < 2048 := Nat.mod_lt _ (by omega)
theorem fr_lt (b : Nat) : fr b < 4503599627370496 := Nat.mod_lt _ (by omega)
theorem kind_bd (b : Nat) : 0 ≤ kind b ∧ kind b ≤ 4 := by unfold kind; split <;> split <;> (try split) <;> omega
theorem bits_lt (b : Nat) (h : b < 18446744073709551616) : bits b < 18446744073709551616 := by unfold bits; split <;> omega
theorem place_bd (b : Nat) (h : b < 18446744073709551616) : -9223372036854775808 ≤ place b ∧ place b ≤ 9223372036854775807 := by
  have := bits_lt b h
  unfold place; split <;> omega
theorem place_inj (a b : Nat) (h : place a = place b) : bits a = bits b := by
  unfold place at h
  split at h <;> split at h <;> omega
theorem cmp_zero (x y : Int) : cmp x y = 0 ↔ x = y := by unfold cmp; split <;> (try split) <;> omega
theorem cmp_neg (x y : Int) : cmp y x = - cmp x y := by unfold cmp; split <;> (try split) <;> (try split) <;> omega
theorem cmp_bd (x y : Int) : -1 ≤ cmp x y ∧ cmp x y ≤ 1 := by unfold cmp; split <;> (try split) <;> omega
theorem cmp_trans (x y z : Int) (h : cmp x y ≤ 0) (h' : cmp y z ≤ 0) : cmp x z ≤ 0 := by
  unfold cmp at *
  split at h <;> (try split at h) <;> split at h' <;> (try split at h') <;> split <;> (try split) <;> omega

theorem and_low (n : Nat) : n &&& 4503599627370495 = n % 4503599627370496 := Nat.and_two_pow_sub_one_eq_mod n 52
theorem and_exp (n : Nat) : n &&& 2047 = n % 2048 := Nat.and_two_pow_sub_one_eq_mod n 11
theorem and_63 (n : Nat) : n &&& 9223372036854775807 = n % 9223372036854775808 := Nat.and_two_pow_sub_one_eq_mod n 63
end Go.Proofs.Ytleajpcoklmgkaa.Gm
