/- The document's own Need, and that gauge's is the same. -/
import Derived.Test.YtleajpcoklmgkaaGaugeSame
namespace Go.Proofs.Ytleajpcoklmgkaa
open Go.ChangeShapes Go.WideShapes Go.ChangeAt Go.RowKit
set_option linter.unusedVariables false

theorem kind_zero (b : Nat) : Gm.kind b = 2 ↔ Gm.ex b = 0 ∧ Gm.fr b = 0 := by
  unfold Gm.kind; split <;> split <;> (try split) <;> omega
theorem mag_zero (b : Nat) : Gm.mag b = 0 ↔ Gm.ex b = 0 ∧ Gm.fr b = 0 := by
  unfold Gm.mag; split <;> omega

theorem rneed_nan (n : Nat) (k : Int) (hn : n < 18446744073709551616) (hk : Gm.kind n = 0) : Gives 22 #[.int .u64 (n : Int), .int .i64 k] 0 1 := by
  intro w
  have a1 : (Gm.kind n == 0) = true := by simp; omega
  clear hk
  go_enter Try.func22, Try.ntmps22
  go_wp2_with (go_at_call 14; refine (rkind_any _ _ hn).mono ?_; rintro e w' ⟨rfl, rfl⟩)
  go_ret2
  exact ⟨rfl, rfl⟩
theorem rneed_inf (n : Nat) (k : Int) (hn : n < 18446744073709551616) (hk : Gm.kind n = 1) : Gives 22 #[.int .u64 (n : Int), .int .i64 k] 0 1 := by
  intro w
  have a1 : (Gm.kind n == 0) = false := by simp; omega
  have a2 : (Gm.kind n == 1) = true := by simp; omega
  clear hk
  go_enter Try.func22, Try.ntmps22
  go_wp2_with (go_at_call 14; refine (rkind_any _ _ hn).mono ?_; rintro e w' ⟨rfl, rfl⟩)
  go_ret2
  exact ⟨rfl, rfl⟩
theorem rneed_minus (n : Nat) (k : Int) (hn : n < 18446744073709551616) (h0 : Gm.kind n ≠ 0) (h1 : Gm.kind n ≠ 1) (hs : Gm.neg n = true) (h2 : Gm.kind n ≠ 2) : Gives 22 #[.int .u64 (n : Int), .int .i64 k] 0 1 := by
  intro w
  have a1 : (Gm.kind n == 0) = false := by simp; omega
  have a2 : (Gm.kind n == 1) = false := by simp; omega
  have a3 : (Gm.kind n != 2) = true := by simp; omega
  clear h0 h1 h2
  go_enter Try.func22, Try.ntmps22
  go_wp2_with (first | (go_at_call 14; refine (rkind_any _ _ hn).mono ?_; rintro e w' ⟨rfl, rfl⟩) | (go_at_call 31; refine (rminus_any _ _).mono ?_; rintro e w' ⟨rfl, rfl⟩))
  go_ret2
  exact ⟨rfl, rfl⟩
/-- Is it a rate, for the document's own text. -/
def Rated (n : Nat) : Prop := (Gm.kind n == 0) = false ∧ (Gm.kind n == 1) = false ∧ ((Gm.neg n = false) ∨ (Gm.neg n = true ∧ (Gm.kind n != 2) = false))

theorem rneed_low (n : Nat) (k : Int) (hn : n < 18446744073709551616) (hr : Rated n) (hk : k < 0) : Gives 22 #[.int .u64 (n : Int), .int .i64 k] 0 1 := by
  intro w
  have b1 : decide (k < 0) = true := by simpa using hk
  clear hk
  obtain ⟨a1, a2, hs | ⟨hs, a3⟩⟩ := hr
  all_goals
    go_enter Try.func22, Try.ntmps22
    go_wp2_with (first | (go_at_call 14; refine (rkind_any _ _ hn).mono ?_; rintro e w' ⟨rfl, rfl⟩) | (go_at_call 31; refine (rminus_any _ _).mono ?_; rintro e w' ⟨rfl, rfl⟩))
    go_ret2
    exact ⟨rfl, rfl⟩
theorem rneed_high (n : Nat) (k : Int) (hn : n < 18446744073709551616) (hr : Rated n) (hk : 1000 < k) : Gives 22 #[.int .u64 (n : Int), .int .i64 k] 0 1 := by
  intro w
  have b1 : decide (k < 0) = false := by simp; omega
  have b2 : decide (1000 < k) = true := by simpa using hk
  clear hk
  obtain ⟨a1, a2, hs | ⟨hs, a3⟩⟩ := hr
  all_goals
    go_enter Try.func22, Try.ntmps22
    go_wp2_with (first | (go_at_call 14; refine (rkind_any _ _ hn).mono ?_; rintro e w' ⟨rfl, rfl⟩) | (go_at_call 31; refine (rminus_any _ _).mono ?_; rintro e w' ⟨rfl, rfl⟩))
    go_ret2
    exact ⟨rfl, rfl⟩
theorem rneed_none (n : Nat) (hn : n < 18446744073709551616) (hr : Rated n) : Gives 22 #[.int .u64 (n : Int), .int .i64 0] 0 0 := by
  intro w
  obtain ⟨a1, a2, hs | ⟨hs, a3⟩⟩ := hr
  all_goals
    go_enter Try.func22, Try.ntmps22
    go_wp2_with (first | (go_at_call 14; refine (rkind_any _ _ hn).mono ?_; rintro e w' ⟨rfl, rfl⟩) | (go_at_call 31; refine (rminus_any _ _).mono ?_; rintro e w' ⟨rfl, rfl⟩))
    go_ret2
    exact ⟨rfl, rfl⟩
theorem rneed_over (n k v : Nat) (l : Bool) (hn : n < 18446744073709551616) (hr : Rated n) (hk1 : 1 ≤ k) (hk : k ≤ 1000) (hw : Whole (prod n k) (Gm.pw n) v l false) : Gives 22 #[.int .u64 (n : Int), .int .i64 (k : Int)] 0 2 := by
  intro w
  have b1 : decide ((k : Int) < 0) = false := by simp
  have b2 : decide (1000 < (k : Int)) = false := by simp; omega
  have b3 : ((k : Int) == 0) = false := by simp; omega
  have h3 := prod_eq n k hk
  have H := Lib.hid hw
  clear hw
  obtain ⟨a1, a2, hs | ⟨hs, a3⟩⟩ := hr
  all_goals
    go_enter Try.func22, Try.ntmps22
    go_wp2_with (first | (go_at_call 14; refine (rkind_any _ _ hn).mono ?_; rintro e w' ⟨rfl, rfl⟩) | (go_at_call 31; refine (rminus_any _ _).mono ?_; rintro e w' ⟨rfl, rfl⟩) | (go_at_call 34; refine (rparts_any _ _ hn).mono ?_; rintro e w' ⟨rfl, rfl⟩) | (go_at_call 35; refine (H.out _).mono ?_; rintro e w' ⟨rfl, rfl⟩))
    go_ret2
    exact ⟨rfl, rfl⟩
theorem rneed_ok (n k v : Nat) (l : Bool) (hn : n < 18446744073709551616) (hr : Rated n) (hk1 : 1 ≤ k) (hk : k ≤ 1000) (hv : v < 4611686018427387904) (hw : Whole (prod n k) (Gm.pw n) v l true) : Gives 22 #[.int .u64 (n : Int), .int .i64 (k : Int)] ((v + l.toNat : Nat) : Int) 0 := by
  intro w
  have b1 : decide ((k : Int) < 0) = false := by simp
  have b2 : decide (1000 < (k : Int)) = false := by simp; omega
  have b3 : ((k : Int) == 0) = false := by simp; omega
  have h3 := prod_eq n k hk
  have H := Lib.hid hw
  clear hw
  obtain ⟨a1, a2, hs | ⟨hs, a3⟩⟩ := hr <;> cases l
  all_goals
    go_enter Try.func22, Try.ntmps22
    go_wp2_with (first | (go_at_call 14; refine (rkind_any _ _ hn).mono ?_; rintro e w' ⟨rfl, rfl⟩) | (go_at_call 31; refine (rminus_any _ _).mono ?_; rintro e w' ⟨rfl, rfl⟩) | (go_at_call 34; refine (rparts_any _ _ hn).mono ?_; rintro e w' ⟨rfl, rfl⟩) | (go_at_call 35; refine (H.out _).mono ?_; rintro e w' ⟨rfl, rfl⟩))
    go_ret2
    first | exact ⟨rfl, rfl⟩ | (refine ⟨ret_int2 ?_ rfl, rfl⟩; have t1 : true.toNat = 1 := rfl; have t0 : false.toNat = 0 := rfl; omega)
end Go.Proofs.Ytleajpcoklmgkaa
