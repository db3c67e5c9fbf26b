/- gauge.Need and gauge.Floor as plain functions, and how they hang together. -/
import Derived.Test.YtleajpcoklmgkaaGaugeRatio
namespace Go.Proofs.Ytleajpcoklmgkaa
open Go.ChangeShapes Go.WideShapes Go.ChangeAt Go.RowKit
set_option linter.unusedVariables false

theorem up_ge (m k : Nat) : m ≤ up m k * 2 ^ k := by
  have h := Nat.div_add_mod m (2 ^ k)
  have hl := Nat.mod_lt m (Nat.two_pow_pos k)
  unfold up
  rw [Nat.mul_comm] at h
  by_cases h0 : m % 2 ^ k = 0
  · rw [h0]
    show m ≤ (m / 2 ^ k + 0) * 2 ^ k
    rw [Nat.add_zero]
    omega
  · rw [show (m % 2 ^ k != 0) = true from by simpa using h0]
    show m ≤ (m / 2 ^ k + 1) * 2 ^ k
    rw [Nat.add_mul, Nat.one_mul]
    omega
theorem up_le (m u k : Nat) (h : m ≤ u * 2 ^ k) : up m k ≤ u := by
  have hd := Nat.div_add_mod m (2 ^ k)
  have hp := Nat.two_pow_pos k
  rw [Nat.mul_comm] at hd
  unfold up
  by_cases h0 : m % 2 ^ k = 0
  · rw [h0]
    show m / 2 ^ k + 0 ≤ u
    rw [Nat.add_zero]
    exact Nat.div_le_of_le_mul (by rw [Nat.mul_comm]; exact h)
  · rw [show (m % 2 ^ k != 0) = true from by simpa using h0]
    show m / 2 ^ k + 1 ≤ u
    have : m / 2 ^ k * 2 ^ k < u * 2 ^ k := by omega
    have := Nat.lt_of_mul_lt_mul_right this
    omega
theorem up_twice (m k : Nat) : up (m * 2) k ≤ 2 * up m k ∧ up m k ≤ up (m * 2) k := by
  have h1 := up_ge m k
  have h2 := up_ge (m * 2) k
  constructor
  · refine up_le _ _ _ ?_
    rw [Nat.mul_assoc]
    omega
  · refine up_le _ _ _ ?_
    omega
theorem up_exact (x k : Nat) : up (x * 2 ^ k) k = x := by
  unfold up
  rw [Nat.mul_div_cancel _ (Nat.two_pow_pos k), Nat.mul_mod_left]
  rfl

def Gives2 (f : Nat) (args : Array Value) (v e : Int) : Prop :=
  ∀ w, Calls Try.prog f args w fun r w' => r = .returned (.tuple #[.int .i64 v, .int .i64 e]) ∧ w = w'

/-- Once, twice, and the floor: what the statement asks of them. -/
def Fits (one e two f low g : Int) : Prop :=
  (e = 0 → g = 0 → one = low ∨ one = low + 1) ∧ (e = 0 → f = 0 → two ≤ 2 * one ∧ one ≤ two) ∧
    0 ≤ one ∧ one < 4611686018427387904 ∧ -4611686018427387904 < low ∧ low < 4611686018427387904 ∧ 0 ≤ e ∧ 0 ≤ f ∧ 0 ≤ g

theorem floor_val (n : Nat) (hn : n < 18446744073709551616) : ∃ low g, Gives2 19 #[.float .f64 n] low g ∧ (g = 0 → Gm.ex n < 1085 ∧ low = Gm.floorV n) ∧ -4611686018427387904 < low ∧ low < 4611686018427387904 ∧ 0 ≤ g := by
  by_cases hx : Gm.ex n < 1085
  · have h2 := (Gm.floorMag_ok n hx).2
    refine ⟨Gm.floorV n, 0, fun w => floor_ok n w hn hx, fun _ => ⟨hx, rfl⟩, ?_, ?_, by omega⟩
    · unfold Gm.floorV; split <;> omega
    · unfold Gm.floorV; split <;> omega
  · by_cases hk : Gm.kind n = 0
    · exact ⟨0, 2, fun w => floor_nan n w hn hk, fun c => by omega, by omega, by omega, by omega⟩
    · exact ⟨0, 2, fun w => floor_big n w hn hk (by omega), fun c => by omega, by omega, by omega, by omega⟩

theorem floor_nonneg (n : Nat) (hs : Gm.neg n = false) : Gm.floorV n = (Gm.mag n * 2 ^ (Gm.pw n).toNat / 2 ^ (-Gm.pw n).toNat : Nat) := by
  unfold Gm.floorV Gm.floorMag
  rw [hs]
  simp

theorem needs_fit (n : Nat) (hn : n < 18446744073709551616) : ∃ one e two f low g, Gives2 21 #[.float .f64 n, .int .i64 1] one e ∧ Gives2 21 #[.float .f64 n, .int .i64 2] two f ∧ Gives2 19 #[.float .f64 n] low g ∧ Fits one e two f low g := by
  obtain ⟨low, g, hf, hg, hl1, hl2, hg0⟩ := floor_val n hn
  cases hr : Gm.rateB n
  · exact ⟨0, 1, 0, 1, low, g, fun w => need_norate n 1 w hn hr, fun w => need_norate n 2 w hn hr, hf, by unfold Fits; omega⟩
  · have hm := Gm.mag_lt n
    have p1 : prod n 1 = Gm.mag n := by simp [prod]
    have p2 : prod n 2 = Gm.mag n * 2 := rfl
    by_cases h0 : Gm.mag n = 0
    · refine ⟨0, 0, 0, 0, low, g, fun w => need_zero n 1 w hn hr (by omega) (by omega), fun w => need_zero n 2 w hn hr (by omega) (by omega), hf, ?_⟩
      have : g = 0 → low = 0 := fun c => by
        rw [(hg c).2]
        unfold Gm.floorV Gm.floorMag
        rw [h0, Nat.zero_mul, Nat.zero_div, Nat.zero_mod]
        simp
      unfold Fits
      omega
    · have hs : Gm.neg n = false := by
        unfold Gm.rateB at hr
        simp only [Bool.and_eq_true, Bool.or_eq_true, Bool.not_eq_true', decide_eq_true_eq] at hr
        rcases hr.2 with h | h
        · exact h
        · exact absurd h h0
      have hb := Gm.pw_bd n
      by_cases hpw : 0 ≤ Gm.pw n
      · obtain ⟨p, hp⟩ : ∃ p : Nat, Gm.pw n = (p : Int) := ⟨(Gm.pw n).toNat, by omega⟩
        have hlow : g = 0 → low = (Gm.mag n * 2 ^ p : Nat) := fun c => by
          rw [(hg c).2, floor_nonneg n hs, hp, show ((p : Int)).toNat = p from by omega, show (-(p : Int)).toNat = 0 from by omega, Nat.pow_zero, Nat.div_one]
        have hlog : (Gm.mag n * 2).log2 = (Gm.mag n).log2 + 1 := by
          have a := Nat.log2_self_le h0
          have b := @Nat.lt_log2_self (Gm.mag n)
          exact Gm.log2_eq_of _ _ (by rw [Nat.pow_succ]; omega) (by rw [Nat.pow_succ]; omega)
        have hsmall : ((Gm.mag n).log2 : Int) + 1 + p ≤ 62 → Gm.mag n * 2 ^ p < 4611686018427387904 := fun hL => by
          have a := @Nat.lt_log2_self (Gm.mag n)
          have b : 2 ^ ((Gm.mag n).log2 + 1) * 2 ^ p ≤ 2 ^ 62 := by rw [← Nat.pow_add]; exact Nat.pow_le_pow_right (by omega) (by omega)
          have c : Gm.mag n * 2 ^ p < 2 ^ ((Gm.mag n).log2 + 1) * 2 ^ p := Nat.mul_lt_mul_of_pos_right a (Nat.two_pow_pos _)
          omega
        have hn1 : ∃ one e, Gives2 21 #[.float .f64 n, .int .i64 1] one e ∧ 0 ≤ one ∧ one < 4611686018427387904 ∧ 0 ≤ e ∧ (e = 0 → one = (Gm.mag n * 2 ^ p : Nat)) := by
          by_cases hL : ((Gm.mag n).log2 : Int) + 1 + p ≤ 62
          · refine ⟨(prod n 1 * 2 ^ p : Nat), 0, fun w => need_up n 1 p w hn hr (by omega) (by omega) hp (by rw [p1]; omega), by omega, ?_, by omega, fun _ => by rw [p1]⟩
            have := hsmall hL
            rw [p1]; omega
          · exact ⟨0, 2, fun w => need_range n 1 w hn hr (by omega) (by omega) (by rw [p1, hp]; omega), by omega, by omega, by omega, fun c => by omega⟩
        have hn2 : ∃ two f, Gives2 21 #[.float .f64 n, .int .i64 2] two f ∧ 0 ≤ f ∧ (f = 0 → two = (Gm.mag n * 2 * 2 ^ p : Nat)) := by
          by_cases hL : ((Gm.mag n).log2 : Int) + 2 + p ≤ 62
          · exact ⟨(prod n 2 * 2 ^ p : Nat), 0, fun w => need_up n 2 p w hn hr (by omega) (by omega) hp (by rw [p2, hlog]; omega), by omega, fun _ => by rw [p2]⟩
          · exact ⟨0, 2, fun w => need_range n 2 w hn hr (by omega) (by omega) (by rw [p2, hlog, hp]; omega), by omega, fun c => by omega⟩
        obtain ⟨one, e, g1, o1, o2, e0, ho⟩ := hn1
        obtain ⟨two, f, g2, f0, ht⟩ := hn2
        refine ⟨one, e, two, f, low, g, g1, g2, hf, ?_⟩
        have e2 : Gm.mag n * 2 * 2 ^ p = 2 * (Gm.mag n * 2 ^ p) := by rw [Nat.mul_comm (Gm.mag n) 2, Nat.mul_assoc]
        rw [e2] at ht
        unfold Fits
        omega
      · obtain ⟨p, hp⟩ : ∃ p : Nat, Gm.pw n = -(p : Int) := ⟨(-Gm.pw n).toNat, by omega⟩
        have hp1 : 1 ≤ p := by omega
        have hlow : g = 0 → low = (Gm.mag n / 2 ^ p : Nat) := fun c => by
          rw [(hg c).2, floor_nonneg n hs, hp, show (-(p : Int)).toNat = 0 from by omega, show (- -(p : Int)).toNat = p from by omega, Nat.pow_zero, Nat.mul_one]
        refine ⟨(up (Gm.mag n) p : Nat), 0, (up (Gm.mag n * 2) p : Nat), 0, low, g, fun w => ?_, fun w => ?_, hf, ?_⟩
        · have := need_down n 1 p w hn hr (by omega) (by omega) hp1 hp
          rw [p1] at this
          exact this
        · have := need_down n 2 p w hn hr (by omega) (by omega) hp1 hp
          rw [p2] at this
          exact this
        · have t := up_twice (Gm.mag n) p
          have hh := Gm.half_le (Gm.mag n) p hp1 (Gm.mag n % 2 ^ p != 0)
          have hb1 : (Gm.mag n % 2 ^ p != 0).toNat ≤ 1 := Bool.toNat_le _
          have hu : up (Gm.mag n) p = Gm.mag n / 2 ^ p + (Gm.mag n % 2 ^ p != 0).toNat := rfl
          unfold Fits
          omega
end Go.Proofs.Ytleajpcoklmgkaa
