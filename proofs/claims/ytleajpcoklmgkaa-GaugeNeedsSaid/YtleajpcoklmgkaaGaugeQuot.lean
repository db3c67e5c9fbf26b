/- Plain facts on quotients of small whole numbers as float64 has them: no program is named here. -/
import Derived.Test.YtleajpcoklmgkaaGaugeReal
namespace Go.Proofs.Ytleajpcoklmgkaa.Gm
open Ieee

/-- The word of a whole number. -/
def ofInt (s : Bool) (m : Nat) : Nat := double.nearest s m 0

theorem small_whole (m : Nat) (h : m ≤ 1125899906842624) : m.log2 ≤ 50 := log2_le_of m 50 (by omega)
theorem keep_small (m : Nat) (h : m.log2 ≤ 52) : keep m = m * 2 ^ (52 - m.log2) := by unfold keep; rw [if_pos h]
theorem keep_log (m : Nat) (hm : m ≠ 0) : (keep m).log2 = 52 := by
  have := keep_bd m hm
  exact log2_eq_of _ 52 this.1 this.2

theorem read_ofInt (s : Bool) (m : Nat) (h0 : m ≠ 0) (h : m ≤ 1125899906842624) :
    double.read (ofInt s m) = .number s (keep m) ((m.log2 : Int) - 52) := by
  have hl := small_whole m h
  obtain ⟨a, b, _, c, d, e⟩ := nearest_parts s m 0 h0 (.inl (by omega)) (by omega) (by omega)
  unfold ofInt
  rw [read_num _ a b, c, d, e]
  congr 1
  omega
theorem read_ofInt_zero (s : Bool) : double.read (ofInt s 0) = .number s 0 (-1074) := by
  unfold ofInt
  rw [nearest_zero]
  cases s <;> decide

def quo (m n : Nat) : Nat := 2 * (m * 2 ^ 54 / n) + (m * 2 ^ 54 % n != 0).toNat

theorem div_ofInt (s t : Bool) (a b : Nat) (ha0 : a ≠ 0) (ha : a ≤ 1125899906842624) (hb0 : b ≠ 0) (hb : b ≤ 1125899906842624) :
    double.div (ofInt s a) (ofInt t b) = some (double.nearest (s ^^ t) (quo (keep a) (keep b)) ((a.log2 : Int) - b.log2 - 55)) := by
  have hkb := keep_bd b hb0
  unfold Format.div
  rw [read_ofInt s a ha0 ha, read_ofInt t b hb0 hb]
  unfold Datum.quotient
  have hfb : double.fractionBits + 2 = 54 := rfl
  simp only [hfb]
  rw [if_neg (by omega), keep_log a ha0, keep_log b hb0, show 54 + 52 - 52 = 54 from rfl, shl]
  unfold quo
  simp only [Option.map_some, Format.write]
  congr 2
  omega
theorem div_zero_num (s t : Bool) (b : Nat) (hb0 : b ≠ 0) (hb : b ≤ 1125899906842624) :
    double.div (ofInt s 0) (ofInt t b) = some (if (s ^^ t) then 9223372036854775808 else 0) := by
  have hkb := keep_bd b hb0
  unfold Format.div
  rw [read_ofInt_zero s, read_ofInt t b hb0 hb]
  unfold Datum.quotient
  simp only []
  rw [if_neg (by omega), shl, Nat.zero_mul, Nat.zero_div, Nat.zero_mod]
  simp only [Option.map_some, Format.write]
  rw [show 2 * 0 + ((0 : Nat) != 0).toNat = 0 from rfl, nearest_zero]
theorem div_by_zero (s t : Bool) (a : Nat) (ha0 : a ≠ 0) (ha : a ≤ 1125899906842624) :
    double.div (ofInt s a) (ofInt t 0) = some (double.word (s ^^ t) double.infRung) := by
  have hka := keep_bd a ha0
  unfold Format.div
  rw [read_ofInt_zero t, read_ofInt s a ha0 ha]
  unfold Datum.quotient
  simp only []
  rw [if_pos trivial, if_neg (by omega)]
  rfl
theorem div_zero_zero (s t : Bool) : double.div (ofInt s 0) (ofInt t 0) = none := by
  unfold Format.div
  rw [read_ofInt_zero t, read_ofInt_zero s]
  rfl

theorem quo_bd (m n : Nat) (hm : 4503599627370496 ≤ m) (hm' : m < 9007199254740992) (hn : 4503599627370496 ≤ n) (hn' : n < 9007199254740992) :
    18014398509481984 ≤ quo m n ∧ quo m n < 72057594037927936 := by
  have hb : (m * 2 ^ 54 % n != 0).toNat ≤ 1 := Bool.toNat_le _
  have h1 : 9007199254740992 ≤ m * 2 ^ 54 / n := by
    rw [Nat.le_div_iff_mul_le (by omega)]
    omega
  have h2 : m * 2 ^ 54 / n < 36028797018963968 := by
    rw [Nat.div_lt_iff_lt_mul (by omega)]
    omega
  unfold quo
  omega
theorem quo_err (m n : Nat) (hn : 0 < n) : quo m n * n ≤ 2 * (m * 2 ^ 54) + n ∧ 2 * (m * 2 ^ 54) ≤ quo m n * n + n := by
  have h := Nat.div_add_mod (m * 2 ^ 54) n
  have hl := Nat.mod_lt (m * 2 ^ 54) hn
  unfold quo
  obtain ⟨q, hq⟩ : ∃ q, q = m * 2 ^ 54 / n := ⟨_, rfl⟩
  obtain ⟨r, hr⟩ : ∃ r, r = m * 2 ^ 54 % n := ⟨_, rfl⟩
  rw [← hq, ← hr] at h
  rw [← hr] at hl
  rw [← hq, ← hr, ← h]
  by_cases h0 : r = 0
  · rw [h0]
    have : (2 * q + ((0 : Nat) != 0).toNat) * n = 2 * (n * q) := by
      show (2 * q + 0) * n = _
      rw [Nat.add_zero, Nat.mul_assoc, Nat.mul_comm q n]
    omega
  · have e : (r != 0).toNat = 1 := by rw [show (r != 0) = true from by simpa using h0]; rfl
    rw [e, Nat.add_mul, Nat.mul_assoc, Nat.mul_comm q n, Nat.one_mul]
    omega
theorem even_err (s : Bool) (n d : Nat) (hd : 1 ≤ d) : Toward.even.cut s n d * 2 ^ d ≤ n + 2 ^ (d - 1) ∧ n ≤ Toward.even.cut s n d * 2 ^ d + 2 ^ (d - 1) := by
  obtain ⟨h1, h2⟩ := cut_gap n d
  have hg := Nat.div_add_mod n (2 ^ d)
  have hl := Nat.mod_lt n (Nat.two_pow_pos d)
  have hp : 2 ^ d = 2 * 2 ^ (d - 1) := by rw [show d = (d - 1) + 1 from by omega, Nat.pow_succ]; simp; omega
  by_cases hbig : d ≤ n.log2 + 2
  · simp only [Toward.cut, h1, h2]
    rw [Nat.min_eq_left hbig, shl, Nat.one_mul]
    rw [Nat.mul_comm] at hg
    cases hmore : (decide (2 ^ d < 2 * (n % 2 ^ d)) || 2 ^ d == 2 * (n % 2 ^ d) && n / 2 ^ d % 2 == 1)
    · simp only [Bool.or_eq_false_iff, decide_eq_false_iff_not] at hmore
      rw [show false.toNat = 0 from rfl, Nat.add_zero]
      omega
    · have : 2 ^ d ≤ 2 * (n % 2 ^ d) := by
        simp only [Bool.or_eq_true, decide_eq_true_eq, Bool.and_eq_true, beq_iff_eq] at hmore
        omega
      rw [show true.toNat = 1 from rfl, Nat.add_mul, Nat.one_mul]
      omega
  · have hn := lt_pow_of_log n (d - 1) (by omega)
    have e : Toward.even.cut s n d = 0 := by
      simp only [Toward.cut, h1, h2]
      rw [Nat.min_eq_right (by omega), shl, Nat.one_mul, Nat.div_eq_of_lt (by omega), Nat.mod_eq_of_lt (by omega)]
      have h4 : n < 2 ^ (n.log2 + 1) := Nat.lt_log2_self
      have h5 : 2 ^ (n.log2 + 2) = 2 * 2 ^ (n.log2 + 1) := by rw [show n.log2 + 2 = (n.log2 + 1) + 1 from rfl, Nat.pow_succ]; omega
      have h6 : decide (2 ^ (n.log2 + 2) < 2 * n) = false := by simp; omega
      rw [h6]
      simp
    rw [e]
    omega
end Go.Proofs.Ytleajpcoklmgkaa.Gm
