/- Contracts of the document's own answers on classes, bits and order. -/
import Derived.Test.YtleajpcoklmgkaaGaugeAlive
namespace Go.Proofs.Ytleajpcoklmgkaa
open Go.ChangeShapes Go.WideShapes Go.ChangeAt Go.RowKit

theorem rexp_any (n : Nat) (w : World) (hn : n < 18446744073709551616) :
    Calls Try.prog 27 #[.int .u64 (n : Int)] w fun e w' => e = .returned (.int .i64 (Gm.ex n)) ∧ w = w' := by
  go_enter Try.func27, Try.ntmps27
  go_wp2
  go_ret
  exact ⟨ret_int (by unfold Gm.ex; omega), rfl⟩
theorem rfr_any (n : Nat) (w : World) (hn : n < 18446744073709551616) :
    Calls Try.prog 28 #[.int .u64 (n : Int)] w fun e w' => e = .returned (.int .u64 (Gm.fr n)) ∧ w = w' := by
  go_enter Try.func28, Try.ntmps28
  go_wp2
  go_ret
  exact ⟨ret_int (by unfold Gm.fr; omega), rfl⟩
theorem rminus_any (n : Nat) (w : World) :
    Calls Try.prog 31 #[.int .u64 (n : Int)] w fun e w' => e = .returned (.bool (Gm.neg n)) ∧ w = w' := by
  have e : decide (9223372036854775808 ≤ (n : Int)) = Gm.neg n := by
    unfold Gm.neg
    rw [decide_eq_decide]
    omega
  have E := Lib.hid e
  clear e
  go_enter Try.func31, Try.ntmps31
  go_wp2
  go_ret
  exact ⟨ret_bool E.out, rfl⟩

theorem rkind_any (n : Nat) (w : World) (hn : n < 18446744073709551616) :
    Calls Try.prog 14 #[.int .u64 (n : Int)] w fun e w' => e = .returned (.int .i64 (Gm.kind n)) ∧ w = w' := by
  unfold Gm.kind
  have hx := Gm.ex_lt n
  have hf := Gm.fr_lt n
  by_cases h1 : Gm.ex n = 2047
  · have a1 : ((Gm.ex n : Int) == 2047) = true := by simp; omega
    have a0 : ((Gm.ex n : Int) == 0) = false := by simp; omega
    rw [if_pos h1]
    clear h1
    by_cases h2 : Gm.fr n = 0
    · have b1 : ((Gm.fr n : Int) != 0) = false := by simp; omega
      rw [if_pos h2]
      clear h2
      go_enter Try.func14, Try.ntmps14
      go_wp2_with (first | (go_at_call 27; refine (rexp_any _ _ hn).mono ?_; rintro e w' ⟨rfl, rfl⟩) | (go_at_call 28; refine (rfr_any _ _ hn).mono ?_; rintro e w' ⟨rfl, rfl⟩))
      go_ret
      exact ⟨rfl, rfl⟩
    · have b1 : ((Gm.fr n : Int) != 0) = true := by simp; omega
      rw [if_neg h2]
      clear h2
      go_enter Try.func14, Try.ntmps14
      go_wp2_with (first | (go_at_call 27; refine (rexp_any _ _ hn).mono ?_; rintro e w' ⟨rfl, rfl⟩) | (go_at_call 28; refine (rfr_any _ _ hn).mono ?_; rintro e w' ⟨rfl, rfl⟩))
      go_ret
      exact ⟨rfl, rfl⟩
  · have a1 : ((Gm.ex n : Int) == 2047) = false := by simp; omega
    rw [if_neg h1]
    clear h1
    by_cases h3 : Gm.ex n = 0
    · have a0 : ((Gm.ex n : Int) == 0) = true := by simp; omega
      rw [if_pos h3]
      clear h3
      by_cases h2 : Gm.fr n = 0
      · have b0 : ((Gm.fr n : Int) == 0) = true := by simp; omega
        rw [if_pos h2]
        clear h2
        go_enter Try.func14, Try.ntmps14
        go_wp2_with (first | (go_at_call 27; refine (rexp_any _ _ hn).mono ?_; rintro e w' ⟨rfl, rfl⟩) | (go_at_call 28; refine (rfr_any _ _ hn).mono ?_; rintro e w' ⟨rfl, rfl⟩))
        go_ret
        exact ⟨rfl, rfl⟩
      · have b0 : ((Gm.fr n : Int) == 0) = false := by simp; omega
        rw [if_neg h2]
        clear h2
        go_enter Try.func14, Try.ntmps14
        go_wp2_with (first | (go_at_call 27; refine (rexp_any _ _ hn).mono ?_; rintro e w' ⟨rfl, rfl⟩) | (go_at_call 28; refine (rfr_any _ _ hn).mono ?_; rintro e w' ⟨rfl, rfl⟩))
        go_ret
        exact ⟨rfl, rfl⟩
    · have a0 : ((Gm.ex n : Int) == 0) = false := by simp; omega
      rw [if_neg h3]
      clear h3
      go_enter Try.func14, Try.ntmps14
      go_wp2_with (first | (go_at_call 27; refine (rexp_any _ _ hn).mono ?_; rintro e w' ⟨rfl, rfl⟩) | (go_at_call 28; refine (rfr_any _ _ hn).mono ?_; rintro e w' ⟨rfl, rfl⟩))
      go_ret
      exact ⟨rfl, rfl⟩

theorem rbits_any (n : Nat) (w : World) (hn : n < 18446744073709551616) :
    Calls Try.prog 12 #[.int .u64 (n : Int)] w fun e w' => e = .returned (.int .u64 (Gm.bits n)) ∧ w = w' := by
  unfold Gm.bits
  by_cases h1 : Gm.kind n = 0
  · have a1 : (Gm.kind n == 0) = true := by simp; omega
    rw [if_pos h1]
    clear h1
    go_enter Try.func12, Try.ntmps12
    go_wp2_with (go_at_call 14; refine (rkind_any _ _ hn).mono ?_; rintro e w' ⟨rfl, rfl⟩)
    go_ret
    exact ⟨rfl, rfl⟩
  · have a1 : (Gm.kind n == 0) = false := by simp; omega
    rw [if_neg h1]
    clear h1
    go_enter Try.func12, Try.ntmps12
    go_wp2_with (go_at_call 14; refine (rkind_any _ _ hn).mono ?_; rintro e w' ⟨rfl, rfl⟩)
    go_ret
    exact ⟨rfl, rfl⟩

theorem rcompare_eq (a b : Nat) (w : World) (ha : a < 18446744073709551616) (hb : b < 18446744073709551616) (h : Gm.bits a = Gm.bits b) :
    Calls Try.prog 16 #[.int .u64 (a : Int), .int .u64 (b : Int)] w fun e w' => e = .returned (.int .i64 0) ∧ w = w' := by
  have h1 : ((Gm.bits a : Int) == (Gm.bits b : Int)) = true := by simp; omega
  clear h
  go_enter Try.func16, Try.ntmps16
  go_wp2_with fail
  refine (rbits_any _ _ ha).mono ?_
  rintro e w' ⟨rfl, rfl⟩
  go_wp2_with fail
  refine (rbits_any _ _ hb).mono ?_
  rintro e w' ⟨rfl, rfl⟩
  go_wp2
  go_ret
  exact ⟨rfl, rfl⟩
theorem rcompare_nan (a b : Nat) (w : World) (ha : a < 18446744073709551616) (hb : b < 18446744073709551616) (h : Gm.bits a ≠ Gm.bits b) (hk : Gm.kind a = 0) :
    Calls Try.prog 16 #[.int .u64 (a : Int), .int .u64 (b : Int)] w fun e w' => e = .returned (.int .i64 1) ∧ w = w' := by
  have h1 : ((Gm.bits a : Int) == (Gm.bits b : Int)) = false := by simp; omega
  have h2 : (Gm.kind a == 0) = true := by simp; omega
  clear h hk
  go_enter Try.func16, Try.ntmps16
  go_wp2_with fail
  refine (rbits_any _ _ ha).mono ?_
  rintro e w' ⟨rfl, rfl⟩
  go_wp2_with fail
  refine (rbits_any _ _ hb).mono ?_
  rintro e w' ⟨rfl, rfl⟩
  go_wp2_with fail
  refine (rkind_any _ _ ha).mono ?_
  rintro e w' ⟨rfl, rfl⟩
  go_wp2
  go_ret
  exact ⟨rfl, rfl⟩
theorem rcompare_nan2 (a b : Nat) (w : World) (ha : a < 18446744073709551616) (hb : b < 18446744073709551616) (h : Gm.bits a ≠ Gm.bits b) (hk : Gm.kind a ≠ 0) (hl : Gm.kind b = 0) :
    Calls Try.prog 16 #[.int .u64 (a : Int), .int .u64 (b : Int)] w fun e w' => e = .returned (.int .i64 (-1)) ∧ w = w' := by
  have h1 : ((Gm.bits a : Int) == (Gm.bits b : Int)) = false := by simp; omega
  have h2 : (Gm.kind a == 0) = false := by simp; omega
  have h3 : (Gm.kind b == 0) = true := by simp; omega
  clear h hk hl
  go_enter Try.func16, Try.ntmps16
  go_wp2_with fail
  refine (rbits_any _ _ ha).mono ?_
  rintro e w' ⟨rfl, rfl⟩
  go_wp2_with fail
  refine (rbits_any _ _ hb).mono ?_
  rintro e w' ⟨rfl, rfl⟩
  go_wp2_with fail
  refine (rkind_any _ _ ha).mono ?_
  rintro e w' ⟨rfl, rfl⟩
  go_wp2_with fail
  refine (rkind_any _ _ hb).mono ?_
  rintro e w' ⟨rfl, rfl⟩
  go_wp2
  go_ret
  exact ⟨rfl, rfl⟩
def rest (a b : Nat) : Int := if Gm.neg a = Gm.neg b then (if decide (a < b) = Gm.neg a then 1 else -1) else if Gm.neg a then -1 else 1
theorem rcompare_rest (a b : Nat) (w : World) (ha : a < 18446744073709551616) (hb : b < 18446744073709551616) (h : Gm.bits a ≠ Gm.bits b) (hk : Gm.kind a ≠ 0) (hl : Gm.kind b ≠ 0) :
    Calls Try.prog 16 #[.int .u64 (a : Int), .int .u64 (b : Int)] w fun e w' => e = .returned (.int .i64 (rest a b)) ∧ w = w' := by
  have h1 : ((Gm.bits a : Int) == (Gm.bits b : Int)) = false := by simp; omega
  have h2 : (Gm.kind a == 0) = false := by simp; omega
  have h3 : (Gm.kind b == 0) = false := by simp; omega
  have hd : decide ((a : Int) < (b : Int)) = decide (a < b) := by rw [decide_eq_decide]; omega
  clear h hk hl
  unfold rest
  cases p : Gm.neg a <;> cases q : Gm.neg b <;> cases r : decide (a < b)
  all_goals
    rw [r] at hd
    go_enter Try.func16, Try.ntmps16
    go_wp2_with fail
    refine (rbits_any _ _ ha).mono ?_
    rintro e w' ⟨rfl, rfl⟩
    go_wp2_with fail
    refine (rbits_any _ _ hb).mono ?_
    rintro e w' ⟨rfl, rfl⟩
    go_wp2_with fail
    refine (rkind_any _ _ ha).mono ?_
    rintro e w' ⟨rfl, rfl⟩
    go_wp2_with fail
    refine (rkind_any _ _ hb).mono ?_
    rintro e w' ⟨rfl, rfl⟩
    go_wp2_with fail
    refine (rminus_any _ _).mono ?_
    rintro e w' ⟨rfl, rfl⟩
    go_wp2_with fail
    refine (rminus_any _ _).mono ?_
    rintro e w' ⟨rfl, rfl⟩
    go_wp2_with fail
    refine (rminus_any _ _).mono ?_
    rintro e w' ⟨rfl, rfl⟩
    go_wp2
    go_ret
    exact ⟨rfl, rfl⟩
end Go.Proofs.Ytleajpcoklmgkaa
