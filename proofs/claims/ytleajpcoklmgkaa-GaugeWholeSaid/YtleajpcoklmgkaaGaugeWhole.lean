/- Contracts of the document's own answers on whole numbers: the loops of 'whole'. -/
import Derived.Test.YtleajpcoklmgkaaGaugeRef2
import Derived.LoopTactic
namespace Go.Proofs.Ytleajpcoklmgkaa
open Go.ChangeShapes Go.WideShapes Go.ChangeAt Go.RowKit
set_option linter.unusedVariables false

def dbl (m j : Nat) : Nat := m * 2 ^ j
def hlf (m j : Nat) : Nat := m / 2 ^ j
def lft (m j : Nat) : Bool := m % 2 ^ j != 0
theorem dbl_zero (m : Nat) : dbl m 0 = m := by simp [dbl]
theorem dbl_succ (m j : Nat) : dbl m (j + 1) = 2 * dbl m j := by unfold dbl; rw [Nat.pow_succ, ← Nat.mul_assoc, Nat.mul_comm]
theorem dbl_mono (m i j : Nat) (h : i ≤ j) : dbl m i ≤ dbl m j := Nat.mul_le_mul_left _ (Nat.pow_le_pow_right (by omega) h)
theorem hlf_zero (m : Nat) : hlf m 0 = m := by simp [hlf]
theorem hlf_succ (m j : Nat) : hlf m (j + 1) = hlf m j / 2 := by unfold hlf; rw [Nat.pow_succ, Nat.div_div_eq_div_mul]
theorem hlf_le (m j : Nat) : hlf m j ≤ m := Nat.div_le_self _ _
theorem lft_zero (m : Nat) : lft m 0 = false := by simp [lft, Nat.mod_one]
theorem lft_succ (m j : Nat) : lft m (j + 1) = (lft m j || hlf m j % 2 == 1) := by
  unfold lft hlf
  have h : m % 2 ^ (j + 1) = m % 2 ^ j + 2 ^ j * (m / 2 ^ j % 2) := by rw [Nat.pow_succ, Nat.mod_mul]
  rw [h]
  have hp := Nat.two_pow_pos j
  have h2 : m / 2 ^ j % 2 = 0 ∨ m / 2 ^ j % 2 = 1 := by omega
  rcases h2 with h2 | h2
  · rw [h2, Nat.mul_zero, Nat.add_zero]; simp
  · rw [h2, Nat.mul_one]
    have : (m % 2 ^ j + 2 ^ j != 0) = true := by simp
    rw [this]; simp
theorem hlf_out (m j k : Nat) (h : j ≤ k) (h0 : hlf m j = 0) : hlf m k = 0 ∧ lft m k = lft m j := by
  unfold hlf lft at *
  have hp := Nat.two_pow_pos j
  have h1 : m < 2 ^ j := by
    rcases Nat.div_eq_zero_iff.1 h0 with h | h <;> omega
  have h2 : m < 2 ^ k := Nat.lt_of_lt_of_le h1 (Nat.pow_le_pow_right (by omega) h)
  rw [Nat.div_eq_of_lt h2, Nat.mod_eq_of_lt h1, Nat.mod_eq_of_lt h2]
  exact ⟨rfl, rfl⟩

theorem ret3 {a b : Int} {c d : Bool} (h : a = b) (h' : c = d) (x : Bool) : Ending.returned (.tuple #[.int .i64 a, .bool c, .bool x]) = .returned (.tuple #[.int .i64 b, .bool d, .bool x]) := by rw [h, h']

theorem rwhole_up (m p : Nat) (w : World) (hm : m < 9223372036854775808) (hp : p ≤ 2000) (hf : dbl m p < 4611686018427387904) :
    Calls Try.prog 35 #[.int .u64 (m : Int), .int .i64 (p : Int)] w fun e w' => e = .returned (.tuple #[.int .i64 (dbl m p : Nat), .bool false, .bool true]) ∧ w = w' := by
  go_enter Try.func35, Try.ntmps35
  go_wp2
  go_loop [0, 1] (fun a b => ∃ j : Nat, j ≤ p ∧ a = .int .u64 (dbl m j : Nat) ∧ b = .int .i64 (p - j : Nat)) (fun _ b => (intOf b).toNat)
  case atStart => exact ⟨0, Nat.zero_le _, by rw [dbl_zero], rfl⟩
  case round =>
    obtain ⟨j, hj, rfl, rfl⟩ := hrel
    have hmono := dbl_mono m j p hj
    by_cases hlt : j < p
    · have h1 := dbl_mono m (j + 1) p hlt
      have h2 := dbl_succ m j
      have hd : decide (2305843009213693952 ≤ (dbl m j : Int)) = false := by simp; omega
      have hpos : 0 < p - j := by omega
      have hle : dbl m j < 2305843009213693952 := by omega
      have H := Lib.hid h2
      clear h2 h1
      go_wp2
      go_round
      case rel => exact ⟨j + 1, by omega, by rw [H.out]; go_num, by rw [show p - (j + 1) = p - j - 1 from by omega]; go_num⟩
      case measure => simp [intOf]; omega
    · obtain rfl : j = p := by omega
      have hz : j - j = 0 := by omega
      rw [hz]
      clear hz hlt hmono
      have hd : decide (4611686018427387904 ≤ (dbl m j : Int)) = false := by simp; omega
      go_wp2
      refine wp_loop_rounds 1 ?_
      rw [rounds_succ]
      go_wp2
      go_ret3
      exact ⟨rfl, rfl⟩

theorem rwhole_over (m p : Nat) (w : World) (hm : m < 9223372036854775808) (hp : p ≤ 2000) (hf : 4611686018427387904 ≤ dbl m p) :
    Calls Try.prog 35 #[.int .u64 (m : Int), .int .i64 (p : Int)] w fun e w' => e = .returned (.tuple #[.int .i64 0, .bool false, .bool false]) ∧ w = w' := by
  go_enter Try.func35, Try.ntmps35
  go_wp2
  go_loop [0, 1] (fun a b => ∃ j : Nat, j ≤ p ∧ a = .int .u64 (dbl m j : Nat) ∧ dbl m j < 9223372036854775808 ∧ b = .int .i64 (p - j : Nat)) (fun _ b => (intOf b).toNat)
  case atStart => exact ⟨0, Nat.zero_le _, by rw [dbl_zero], by rw [dbl_zero]; exact hm, rfl⟩
  case round =>
    obtain ⟨j, hj, rfl, hb, rfl⟩ := hrel
    by_cases hlt : j < p
    · have hpos : 0 < p - j := by omega
      by_cases hbig : 2305843009213693952 ≤ dbl m j
      · have hd : decide (2305843009213693952 ≤ (dbl m j : Int)) = true := by simp; omega
        go_wp2
        go_ret3
        exact ⟨rfl, rfl⟩
      · have hd : decide (2305843009213693952 ≤ (dbl m j : Int)) = false := by simp; omega
        have h2 := dbl_succ m j
        have hle : dbl m j < 2305843009213693952 := by omega
        have H := Lib.hid h2
        clear h2
        go_wp2
        go_round
        case rel => exact ⟨j + 1, by omega, by rw [H.out]; go_num, by rw [H.out]; omega, by rw [show p - (j + 1) = p - j - 1 from by omega]; go_num⟩
        case measure => simp [intOf]; omega
    · obtain rfl : j = p := by omega
      have hz : j - j = 0 := by omega
      rw [hz]
      clear hz hlt
      have hd : decide (4611686018427387904 ≤ (dbl m j : Int)) = true := by simp; omega
      go_wp2
      refine wp_loop_rounds 1 ?_
      rw [rounds_succ]
      go_wp2
      go_ret3
      exact ⟨rfl, rfl⟩

theorem rwhole_down (m k : Nat) (w : World) (hm : m < 9223372036854775808) (hk1 : 1 ≤ k) (hk : k ≤ 2000) :
    Calls Try.prog 35 #[.int .u64 (m : Int), .int .i64 (-(k : Int))] w fun e w' => e = .returned (.tuple #[.int .i64 (hlf m k : Nat), .bool (lft m k), .bool true]) ∧ w = w' := by
  have hfin : hlf m k < 4611686018427387904 := by
    have h1 : hlf m k = hlf m (k - 1) / 2 := by rw [← hlf_succ]; congr 1; omega
    have h2 := hlf_le m (k - 1)
    omega
  go_enter Try.func35, Try.ntmps35
  go_wp2
  refine wp_loop_rounds 1 ?_
  rw [rounds_succ]
  go_wp2
  go_loop [0, 1, 7] (fun a b c => ∃ j : Nat, j ≤ k ∧ a = .int .u64 (hlf m j : Nat) ∧ b = .int .i64 (-((k - j : Nat) : Int)) ∧ c = .bool (lft m j)) (fun _ b _ => (-(intOf b)).toNat)
  case atStart => exact ⟨0, Nat.zero_le _, by rw [hlf_zero], rfl, by rw [lft_zero]⟩
  case round =>
    obtain ⟨j, hj, rfl, rfl, rfl⟩ := hrel
    have hle := hlf_le m j
    by_cases hlt : j < k ∧ 0 < hlf m j
    · obtain ⟨h1, h2⟩ := hlt
      have e1 := hlf_succ m j
      have e2 := lft_succ m j
      have d0 : decide (-((k - j : Nat) : Int) < 0) = true := by simp; omega
      have d1 : decide (0 < (hlf m j : Int)) = true := by simp; omega
      have hpos : 0 < k - j := by omega
      have hd : (((hlf m j : Int) % 2) == 1) = (hlf m j % 2 == 1) := by
        rw [Bool.eq_iff_iff, beq_iff_eq, beq_iff_eq]; omega
      have E1 := Lib.hid e1
      clear e1
      cases l : lft m j <;> cases b : (hlf m j % 2 == 1)
      all_goals
        rw [l, b] at e2
        rw [b] at hd
        have E2 := Lib.hid e2
        clear e2 b
        go_wp2
        go_round
        case rel => exact ⟨j + 1, by omega, by rw [E1.out]; go_num, by rw [show k - (j + 1) = k - j - 1 from by omega]; go_num, by rw [E2.out]; rfl⟩
        case measure => simp [intOf]; omega
    · have hout : hlf m j = hlf m k ∧ lft m j = lft m k := by
        by_cases hjk : j = k
        · subst hjk; exact ⟨rfl, rfl⟩
        · have h0 : hlf m j = 0 := by omega
          have := hlf_out m j k hj h0
          exact ⟨by omega, this.2.symm⟩
      have hb : (¬ 0 < k - j) ∨ (0 < k - j ∧ ¬ 0 < hlf m j) := by omega
      rw [← hout.1] at hfin
      have O := Lib.hid hout
      clear hout hlt
      have hd : decide (4611686018427387904 ≤ (hlf m j : Int)) = false := by simp; omega
      rcases hb with b1 | ⟨b1, b2⟩
      all_goals
        go_wp2
        go_ret3
        exact ⟨ret3 (congrArg Nat.cast O.out.1) O.out.2 true, rfl⟩
end Go.Proofs.Ytleajpcoklmgkaa
