/- Contracts of gauge's plain functions. -/
import Derived.Test.YtleajpcoklmgkaaGaugeExt
import Derived.Test.YtleajpcoklmgkaaGaugeMath
import Derived.Outline
import Derived.Lib.Hide
import Derived.Laws.BitsAllLaws
namespace Go.Proofs.Ytleajpcoklmgkaa
open Go.ChangeShapes Go.WideShapes Go.ChangeAt Go.RowKit

theorem wrap64_of (x : Int) (h : -9223372036854775808 ≤ x) (h' : x ≤ 9223372036854775807) : wrap64 x = x := by unfold wrap64; omega
theorem ret_int {k : IntKind} {a b : Int} (h : a = b) : Ending.returned (.int k a) = .returned (.int k b) := by rw [h]
theorem ret_int2 {k l : IntKind} {a b c d : Int} (h : a = b) (h' : c = d) : Ending.returned (.tuple #[.int k a, .int l c]) = .returned (.tuple #[.int k b, .int l d]) := by rw [h, h']
theorem ret_bool {a b : Bool} (h : a = b) : Ending.returned (.bool a) = .returned (.bool b) := by rw [h]

theorem b_ex (n : Nat) (hn : n < 18446744073709551616) : bits .and .u64 ((n : Int) / 4503599627370496) 2047 = (Gm.ex n : Int) := by
  have h := u64_and_nat (n / 4503599627370496) 2047 (by omega) (by omega)
  rw [Gm.and_exp] at h
  exact h
theorem b_fr (n : Nat) (hn : n < 18446744073709551616) : bits .and .u64 (n : Int) 4503599627370495 = (Gm.fr n : Int) := by
  have h := u64_and_nat n 4503599627370495 hn (by omega)
  rw [Gm.and_low] at h
  exact h

theorem of_any (n : Nat) (w : World) :
    Calls Try.prog 9 #[.int .u64 n] w fun e w' => e = .returned (.float .f64 n) ∧ w = w' := by
  have h := @run_frombits
  go_enter Try.func9, Try.ntmps9
  go_wp2
  go_ret
  exact ⟨rfl, rfl⟩

theorem parts_any (n : Nat) (w : World) (hn : n < 18446744073709551616) :
    Calls Try.prog 26 #[.float .f64 n] w fun e w' => e = .returned (.tuple #[.int .i64 (Gm.ex n), .int .u64 (Gm.fr n)]) ∧ w = w' := by
  have h := @run_bits
  go_enter Try.func26, Try.ntmps26
  go_wp2
  go_ret2
  have h2 := Gm.ex_lt n
  exact ⟨ret_int2 (by rw [b_ex n hn, wrap64_of _ (by omega) (by omega)]) (b_fr n hn), rfl⟩

theorem kind_any (n : Nat) (w : World) (hn : n < 18446744073709551616) :
    Calls Try.prog 13 #[.float .f64 n] w fun e w' => e = .returned (.int .i64 (Gm.kind n)) ∧ w = w' := by
  unfold Gm.kind
  have hx := Gm.ex_lt n
  have hf := Gm.fr_lt n
  by_cases h1 : Gm.ex n = 2047
  · have a1 : ((Gm.ex n : Int) == 2047) = true := by simp; omega
    have a0 : ((Gm.ex n : Int) == 0) = false := by simp; omega
    rw [if_pos h1]
    clear h1
    by_cases h2 : Gm.fr n = 0
    · have b1 : ((Gm.fr n : Int) != 0) = false := by simp; omega
      have b0 : ((Gm.fr n : Int) == 0) = true := by simp; omega
      rw [if_pos h2]
      clear h2
      go_enter Try.func13, Try.ntmps13
      go_wp2_with (go_at_call 26; refine (parts_any _ _ hn).mono ?_; rintro e w' ⟨rfl, rfl⟩)
      go_ret
      exact ⟨rfl, rfl⟩
    · have b1 : ((Gm.fr n : Int) != 0) = true := by simp; omega
      have b0 : ((Gm.fr n : Int) == 0) = false := by simp; omega
      rw [if_neg h2]
      clear h2
      go_enter Try.func13, Try.ntmps13
      go_wp2_with (go_at_call 26; refine (parts_any _ _ hn).mono ?_; rintro e w' ⟨rfl, rfl⟩)
      go_ret
      exact ⟨rfl, rfl⟩
  · have a1 : ((Gm.ex n : Int) == 2047) = false := by simp; omega
    rw [if_neg h1]
    clear h1
    by_cases h3 : Gm.ex n = 0
    · have a0 : ((Gm.ex n : Int) == 0) = true := by simp; omega
      rw [if_pos h3]
      clear h3
      by_cases h2 : Gm.fr n = 0
      · have b0 : ((Gm.fr n : Int) == 0) = true := by simp; omega
        rw [if_pos h2]
        clear h2
        go_enter Try.func13, Try.ntmps13
        go_wp2_with (go_at_call 26; refine (parts_any _ _ hn).mono ?_; rintro e w' ⟨rfl, rfl⟩)
        go_ret
        exact ⟨rfl, rfl⟩
      · have b0 : ((Gm.fr n : Int) == 0) = false := by simp; omega
        rw [if_neg h2]
        clear h2
        go_enter Try.func13, Try.ntmps13
        go_wp2_with (go_at_call 26; refine (parts_any _ _ hn).mono ?_; rintro e w' ⟨rfl, rfl⟩)
        go_ret
        exact ⟨rfl, rfl⟩
    · have a0 : ((Gm.ex n : Int) == 0) = false := by simp; omega
      rw [if_neg h3]
      clear h3
      go_enter Try.func13, Try.ntmps13
      go_wp2_with (go_at_call 26; refine (parts_any _ _ hn).mono ?_; rintro e w' ⟨rfl, rfl⟩)
      go_ret
      exact ⟨rfl, rfl⟩

theorem bits_any (n : Nat) (w : World) (hn : n < 18446744073709551616) :
    Calls Try.prog 11 #[.float .f64 n] w fun e w' => e = .returned (.int .u64 (Gm.bits n)) ∧ w = w' := by
  have h := @run_bits
  unfold Gm.bits
  by_cases h1 : Gm.kind n = 0
  · have a1 : (Gm.kind n == 0) = true := by simp; omega
    rw [if_pos h1]
    clear h1
    go_enter Try.func11, Try.ntmps11
    go_wp2_with (go_at_call 13; refine (kind_any _ _ hn).mono ?_; rintro e w' ⟨rfl, rfl⟩)
    go_ret
    exact ⟨rfl, rfl⟩
  · have a1 : (Gm.kind n == 0) = false := by simp; omega
    rw [if_neg h1]
    clear h1
    go_enter Try.func11, Try.ntmps11
    go_wp2_with (go_at_call 13; refine (kind_any _ _ hn).mono ?_; rintro e w' ⟨rfl, rfl⟩)
    go_ret
    exact ⟨rfl, rfl⟩

end Go.Proofs.Ytleajpcoklmgkaa
