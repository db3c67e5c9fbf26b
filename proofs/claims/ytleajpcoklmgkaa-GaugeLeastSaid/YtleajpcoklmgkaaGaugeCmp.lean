/- Contracts of gauge's order. -/
import Derived.Test.YtleajpcoklmgkaaGaugeWalks
import Derived.Deep.QuietTactic
import Derived.BigQuiet
namespace Go.Proofs.Ytleajpcoklmgkaa
open Go.ChangeShapes Go.WideShapes Go.ChangeAt Go.RowKit

theorem ofInt64 (m : Nat) (h : m < 18446744073709551616) : (BitVec.ofInt 64 (wrap64 (m : Int))).toNat = m := by
  rw [BitVec.toNat_ofInt]
  unfold wrap64
  omega
theorem and_i64 (m : Nat) (h : m < 18446744073709551616) : bits .and .i64 (wrap64 (m : Int)) 9223372036854775807 = ((m % 9223372036854775808 : Nat) : Int) := by
  have e : (BitVec.ofInt 64 (wrap64 (m : Int)) &&& BitVec.ofInt 64 9223372036854775807).toNat = m % 9223372036854775808 := by
    rw [BitVec.toNat_and, ofInt64 m h]
    exact Gm.and_63 m
  show IntKind.i64.wrap ((BitVec.ofInt 64 (wrap64 (m : Int)) &&& BitVec.ofInt 64 9223372036854775807).toNat : Int) = _
  rw [e, IntKind.wrap_i64]
  omega
theorem xor_i64 (k : Nat) (h : k < 9223372036854775808) : bits .xor .i64 (-1) (k : Int) = -(k : Int) - 1 := by
  have e : (BitVec.ofInt 64 (-1) ^^^ BitVec.ofInt 64 (k : Int)).toNat = 18446744073709551615 - k := by
    have e1 : BitVec.ofInt 64 (-1) = BitVec.allOnes 64 := by decide
    rw [e1, BitVec.allOnes_xor, BitVec.toNat_not, BitVec.toNat_ofInt]
    omega
  show IntKind.i64.wrap ((BitVec.ofInt 64 (-1) ^^^ BitVec.ofInt 64 (k : Int)).toNat : Int) = _
  rw [e, IntKind.wrap_i64]
  omega

theorem place_any (n : Nat) (w : World) (hn : n < 18446744073709551616) :
    Calls Try.prog 30 #[.float .f64 n] w fun e w' => e = .returned (.int .i64 (Gm.place n)) ∧ w = w' := by
  have hb := Gm.bits_lt n hn
  unfold Gm.place
  by_cases h1 : 9223372036854775808 ≤ Gm.bits n
  · have a1 : wrap64 (Gm.bits n : Int) < 0 := by unfold wrap64; omega
    rw [if_pos h1]
    go_enter Try.func30, Try.ntmps30
    go_wp2_with (go_at_call 11; refine (bits_any _ _ hn).mono ?_; rintro e w' ⟨rfl, rfl⟩)
    go_ret
    refine ⟨ret_int ?_, rfl⟩
    rw [and_i64 _ hb, xor_i64 _ (by omega)]
    omega
  · have a1 : ¬ wrap64 (Gm.bits n : Int) < 0 := by unfold wrap64; omega
    rw [if_neg h1]
    go_enter Try.func30, Try.ntmps30
    go_wp2_with (go_at_call 11; refine (bits_any _ _ hn).mono ?_; rintro e w' ⟨rfl, rfl⟩)
    go_ret
    exact ⟨rfl, rfl⟩

theorem cmp_any (x y : Int) (w : World) :
    Calls Try.prog 29 #[.int .i64 x, .int .i64 y] w fun e w' => e = .returned (.int .i64 (Gm.cmp x y)) ∧ w = w' := by
  unfold Gm.cmp
  by_cases h1 : x < y
  · rw [if_pos h1]
    go_enter Try.func29, Try.ntmps29
    go_wp2
    go_ret
    exact ⟨rfl, rfl⟩
  · rw [if_neg h1]
    by_cases h2 : y < x
    · rw [if_pos h2]
      go_enter Try.func29, Try.ntmps29
      go_wp2
      go_ret
      exact ⟨rfl, rfl⟩
    · rw [if_neg h2]
      go_enter Try.func29, Try.ntmps29
      go_wp2
      go_ret
      exact ⟨rfl, rfl⟩

theorem compare_any (a b : Nat) (w : World) (ha : a < 18446744073709551616) (hb : b < 18446744073709551616) :
    Calls Try.prog 15 #[.float .f64 a, .float .f64 b] w fun e w' => e = .returned (.int .i64 (Gm.compare a b)) ∧ w = w' := by
  go_enter Try.func15, Try.ntmps15
  go_wp2_with fail
  refine (place_any _ _ ha).mono ?_
  rintro e w' ⟨rfl, rfl⟩
  go_wp2_with fail
  refine (place_any _ _ hb).mono ?_
  rintro e w' ⟨rfl, rfl⟩
  go_wp2_with fail
  refine (cmp_any _ _ _).mono ?_
  rintro e w' ⟨rfl, rfl⟩
  go_wp2
  go_ret
  exact ⟨rfl, rfl⟩
end Go.Proofs.Ytleajpcoklmgkaa
