/- Plain facts on what the words of float64 stand for: no program is named here. -/
import Derived.Test.YtleajpcoklmgkaaGaugeMath
namespace Go.Proofs.Ytleajpcoklmgkaa.Gm
open Ieee

def mag (b : Nat) : Nat := if ex b = 0 then fr b else 4503599627370496 + fr b
def pw (b : Nat) : Int := if ex b = 0 then -1074 else (ex b : Int) - 1075
def neg (b : Nat) : Bool := decide (9223372036854775808 ≤ b)

theorem mag_lt (b : Nat) : mag b < 9007199254740992 := by
  have := fr_lt b
  unfold mag; split <;> omega
theorem pw_bd (b : Nat) : -1074 ≤ pw b ∧ pw b ≤ 972 := by
  have := ex_lt b
  unfold pw; split <;> omega

theorem dbl_sign : double.signWeight = 9223372036854775808 := by decide
theorem dbl_bin : double.binade = 4503599627370496 := by decide
theorem dbl_inf : double.infRung = 9218868437227405312 := by decide
theorem dbl_least : double.leastPlace = -1074 := by decide

theorem read_num (b : Nat) (hb : b < 18446744073709551616) (h : ex b ≠ 2047) : double.read b = .number (neg b) (mag b) (pw b) := by
  have hx := ex_lt b
  have hneg : (b / 9223372036854775808 % 2 == 1) = neg b := by
    unfold neg
    by_cases h9 : 9223372036854775808 ≤ b
    · have : b / 9223372036854775808 % 2 = 1 := by omega
      simp [this, h9]
    · have : b / 9223372036854775808 % 2 = 0 := by omega
      simp [this, h9]
  unfold Format.read
  simp only [dbl_sign, dbl_bin, dbl_inf, dbl_least]
  rw [hneg]
  unfold ex at h hx
  by_cases h0 : b / 4503599627370496 % 2048 = 0
  · have e1 : b % 9223372036854775808 < 4503599627370496 := by omega
    rw [if_pos e1]
    unfold mag pw ex fr
    rw [if_pos h0, if_pos h0]
    congr 1
    omega
  · have e1 : ¬ b % 9223372036854775808 < 4503599627370496 := by omega
    have e2 : b % 9223372036854775808 < 9218868437227405312 := by omega
    rw [if_neg e1, if_pos e2]
    unfold mag pw ex fr
    rw [if_neg h0, if_neg h0]
    congr 1
    · omega
    · omega
theorem read_inf (b : Nat) (hb : b < 18446744073709551616) (h : ex b = 2047) (h' : fr b = 0) : double.read b = .infinity (neg b) := by
  have hneg : (b / 9223372036854775808 % 2 == 1) = neg b := by
    unfold neg
    by_cases h9 : 9223372036854775808 ≤ b
    · have : b / 9223372036854775808 % 2 = 1 := by omega
      simp [this, h9]
    · have : b / 9223372036854775808 % 2 = 0 := by omega
      simp [this, h9]
  unfold ex at h
  unfold fr at h'
  unfold Format.read
  simp only [dbl_sign, dbl_bin, dbl_inf, dbl_least]
  rw [hneg, if_neg (by omega), if_neg (by omega), if_pos (by omega)]
theorem read_nan (b : Nat) (h : ex b = 2047) (h' : fr b ≠ 0) : ∃ s t, double.read b = .nan s t := by
  unfold ex at h
  unfold fr at h'
  unfold Format.read
  simp only [dbl_sign, dbl_bin, dbl_inf, dbl_least]
  rw [if_neg (by omega), if_neg (by omega), if_neg (by omega)]
  exact ⟨_, _, rfl⟩

theorem shl (a k : Nat) : a <<< k = a * 2 ^ k := Nat.shiftLeft_eq a k
theorem pow_split (a b : Nat) (h : a ≤ b) : 2 ^ b = 2 ^ a * 2 ^ (b - a) := by rw [← Nat.pow_add]; congr 1; omega

theorem lt_pow_of_log (n d : Nat) (h : n.log2 + 2 ≤ d) : n < 2 ^ d := by
  have h1 := @Nat.lt_log2_self n
  have h2 : 2 ^ (n.log2 + 1) ≤ 2 ^ d := Nat.pow_le_pow_right (by omega) (by omega)
  omega
theorem cut_gap (n d : Nat) : n / (1 <<< min d (n.log2 + 2)) = n / 2 ^ d ∧ n % (1 <<< min d (n.log2 + 2)) = n % 2 ^ d := by
  rw [shl, Nat.one_mul]
  by_cases h : d ≤ n.log2 + 2
  · rw [Nat.min_eq_left h]; exact ⟨rfl, rfl⟩
  · rw [Nat.min_eq_right (by omega)]
    have h1 := lt_pow_of_log n (n.log2 + 2) (Nat.le_refl _)
    have h2 := lt_pow_of_log n d (by omega)
    rw [Nat.div_eq_of_lt h1, Nat.div_eq_of_lt h2, Nat.mod_eq_of_lt h1, Nat.mod_eq_of_lt h2]
    exact ⟨rfl, rfl⟩
theorem cut_down (s : Bool) (n d : Nat) : Toward.down.cut s n d = n / 2 ^ d + (s && n % 2 ^ d != 0).toNat := by
  obtain ⟨h1, h2⟩ := cut_gap n d
  simp only [Toward.cut, h1, h2]
theorem cut_zero (s : Bool) (n d : Nat) : Toward.zero.cut s n d = n / 2 ^ d := by
  obtain ⟨h1, h2⟩ := cut_gap n d
  simp only [Toward.cut, h1]
  rfl
theorem cut_even_exact (s : Bool) (n d : Nat) (h : n % 2 ^ d = 0) : Toward.even.cut s n d = n / 2 ^ d := by
  obtain ⟨h1, h2⟩ := cut_gap n d
  have h4 : ((1 <<< min d (n.log2 + 2)) == 2 * 0) = false := by simp
  simp only [Toward.cut, h1, h2, h]
  rw [h4]
  simp

/-- The 53 digits that are kept. -/
def keep (m : Nat) : Nat := if m.log2 ≤ 52 then m * 2 ^ (52 - m.log2) else m / 2 ^ (m.log2 - 52)
def whole53 (m : Nat) : Prop := m.log2 ≤ 52 ∨ m % 2 ^ (m.log2 - 52) = 0

theorem keep_bd (m : Nat) (hm : m ≠ 0) : 4503599627370496 ≤ keep m ∧ keep m < 9007199254740992 := by
  have h1 := Nat.log2_self_le hm
  have h2 := @Nat.lt_log2_self m
  unfold keep
  split
  · rename_i h
    have e : 4503599627370496 = 2 ^ m.log2 * 2 ^ (52 - m.log2) := by rw [← Nat.pow_add]; rw [show m.log2 + (52 - m.log2) = 52 from by omega]
    have e' : 9007199254740992 = 2 ^ (m.log2 + 1) * 2 ^ (52 - m.log2) := by rw [← Nat.pow_add]; rw [show m.log2 + 1 + (52 - m.log2) = 53 from by omega]
    constructor
    · rw [e]; exact Nat.mul_le_mul_right _ h1
    · rw [e']; exact Nat.mul_lt_mul_of_pos_right h2 (Nat.two_pow_pos _)
  · rename_i h
    have e : 2 ^ m.log2 = 4503599627370496 * 2 ^ (m.log2 - 52) := by
      rw [show (4503599627370496 : Nat) = 2 ^ 52 from rfl, ← Nat.pow_add]; congr 1; omega
    have e' : 2 ^ (m.log2 + 1) = 9007199254740992 * 2 ^ (m.log2 - 52) := by
      rw [show (9007199254740992 : Nat) = 2 ^ 53 from rfl, ← Nat.pow_add]; congr 1; omega
    constructor
    · rw [Nat.le_div_iff_mul_le (Nat.two_pow_pos _)]; omega
    · rw [Nat.div_lt_iff_lt_mul (Nat.two_pow_pos _)]; omega

theorem nearest_exact (s : Bool) (m : Nat) (p : Int) (hm : m ≠ 0) (hx : whole53 m) (h1 : -1074 ≤ p + m.log2 - 52) (h2 : p + m.log2 - 52 ≤ 971) :
    double.nearest s m p = (if s then 9223372036854775808 else 0) + ((p + m.log2 - 52 + 1074).toNat * 4503599627370496 + keep m) := by
  have hk := keep_bd m hm
  have hfb : ((double.fractionBits : Nat) : Int) = 52 := rfl
  unfold Format.nearest
  simp only [dbl_bin, dbl_inf, dbl_least]
  rw [if_neg hm, hfb]
  have hmax : max (p + (m.log2 : Int) - 52) (-1074) = p + m.log2 - 52 := by omega
  rw [hmax]
  have hkept : Toward.even.cut s (m <<< (p - (p + (m.log2 : Int) - 52)).toNat) (p + (m.log2 : Int) - 52 - p).toNat = keep m := by
    unfold keep
    split
    · rename_i hl
      rw [show (p - (p + (m.log2 : Int) - 52)).toNat = 52 - m.log2 from by omega, show (p + (m.log2 : Int) - 52 - p).toNat = 0 from by omega, shl]
      rw [cut_even_exact _ _ _ (by rw [Nat.pow_zero, Nat.mod_one]), Nat.pow_zero, Nat.div_one]
    · rename_i hl
      rw [show (p - (p + (m.log2 : Int) - 52)).toNat = 0 from by omega, show (p + (m.log2 : Int) - 52 - p).toNat = m.log2 - 52 from by omega, shl, Nat.pow_zero, Nat.mul_one]
      rw [cut_even_exact _ _ _ (hx.resolve_left hl)]
  rw [hkept]
  have hmin : min ((p + (m.log2 : Int) - 52 - -1074).toNat * 4503599627370496 + keep m) 9218868437227405312 = (p + m.log2 - 52 + 1074).toNat * 4503599627370496 + keep m := by
    rw [show (p + (m.log2 : Int) - 52 - -1074) = p + m.log2 - 52 + 1074 from by omega]
    have : (p + (m.log2 : Int) - 52 + 1074).toNat ≤ 2045 := by omega
    have : (p + (m.log2 : Int) - 52 + 1074).toNat * 4503599627370496 ≤ 2045 * 4503599627370496 := Nat.mul_le_mul_right _ this
    omega
  rw [hmin]
  unfold Format.word
  rw [dbl_sign]
  cases s <;> simp

theorem parts_exact (s : Bool) (k q : Nat) (hk : k ≤ 2045) (h1 : 4503599627370496 ≤ q) (h2 : q < 9007199254740992) :
    let b := (if s then 9223372036854775808 else 0) + (k * 4503599627370496 + q)
    b < 18446744073709551616 ∧ ex b = k + 1 ∧ fr b = q - 4503599627370496 ∧ neg b = s := by
  cases s
  · simp only [Bool.false_eq_true, if_false, Nat.zero_add]
    unfold ex fr neg
    have : k * 4503599627370496 + q < 9223372036854775808 := by omega
    refine ⟨by omega, by omega, by omega, by simp; omega⟩
  · simp only [if_true]
    unfold ex fr neg
    have : k * 4503599627370496 + q < 9223372036854775808 := by omega
    refine ⟨by omega, by omega, by omega, by simp⟩

theorem nearest_parts (s : Bool) (m : Nat) (p : Int) (hm : m ≠ 0) (hx : whole53 m) (h1 : -1074 ≤ p + m.log2 - 52) (h2 : p + m.log2 - 52 ≤ 971) :
    double.nearest s m p < 18446744073709551616 ∧ ex (double.nearest s m p) ≠ 2047 ∧ ex (double.nearest s m p) ≠ 0 ∧ mag (double.nearest s m p) = keep m ∧ pw (double.nearest s m p) = p + m.log2 - 52 ∧ neg (double.nearest s m p) = s := by
  have hk := keep_bd m hm
  obtain ⟨a, b, c, d⟩ := parts_exact s (p + m.log2 - 52 + 1074).toNat (keep m) (by omega) hk.1 hk.2
  rw [nearest_exact s m p hm hx h1 h2]
  refine ⟨a, by omega, by omega, ?_, ?_, d⟩
  · unfold mag; rw [b, if_neg (by omega), c]; omega
  · unfold pw; rw [b, if_neg (by omega)]; omega

theorem nearest_zero (s : Bool) (p : Int) : double.nearest s 0 p = if s then 9223372036854775808 else 0 := by
  unfold Format.nearest Format.word
  rw [if_pos rfl, dbl_sign]

/-- Cut towards zero, an integer's word gives the integer back. -/
theorem back_int (s : Bool) (m : Nat) (hx : whole53 m) (hm : m < 9223372036854775808) :
    (double.read (double.nearest s m 0)).toInt .zero = some (if s then -(m : Int) else (m : Int)) := by
  by_cases h0 : m = 0
  · subst h0
    rw [nearest_zero]
    cases s <;> decide
  · have hl : m.log2 < 63 := (Nat.log2_lt h0).2 hm
    obtain ⟨a, b, _, c, d, e⟩ := nearest_parts s m 0 h0 hx (by omega) (by omega)
    rw [read_num _ a b, c, d, e]
    unfold Datum.toInt Datum.integral
    simp only []
    have key : Toward.zero.cut s (keep m <<< (0 + (m.log2 : Int) - 52).toNat) (-(0 + (m.log2 : Int) - 52)).toNat = m := by
      rw [cut_zero, shl]
      unfold keep
      split
      · rename_i h
        rw [show (0 + (m.log2 : Int) - 52).toNat = 0 from by omega, show (-(0 + (m.log2 : Int) - 52)).toNat = 52 - m.log2 from by omega, Nat.pow_zero, Nat.mul_one]
        exact Nat.mul_div_cancel _ (Nat.two_pow_pos _)
      · rename_i h
        rw [show (0 + (m.log2 : Int) - 52).toNat = m.log2 - 52 from by omega, show (-(0 + (m.log2 : Int) - 52)).toNat = 0 from by omega, Nat.pow_zero, Nat.div_one]
        exact Nat.div_mul_cancel (Nat.dvd_of_mod_eq_zero (hx.resolve_left h))
    rw [key]
    unfold signed
    rw [shl, Nat.pow_zero, Nat.mul_one]

/-- A number's amount, rounded down (below 0: up), and the number rounded down. -/
def floorMag (b : Nat) : Nat := mag b * 2 ^ (pw b).toNat / 2 ^ (-pw b).toNat + (neg b && mag b * 2 ^ (pw b).toNat % 2 ^ (-pw b).toNat != 0).toNat
def floorV (b : Nat) : Int := if neg b then -(floorMag b : Int) else (floorMag b : Int)

theorem floorMag_up (b : Nat) (h : 1075 ≤ ex b) : floorMag b = mag b * 2 ^ (ex b - 1075) := by
  have hp : pw b = (ex b : Int) - 1075 := by unfold pw; rw [if_neg (by omega)]
  unfold floorMag
  rw [hp, show ((ex b : Int) - 1075).toNat = ex b - 1075 from by omega, show (-((ex b : Int) - 1075)).toNat = 0 from by omega, Nat.pow_zero, Nat.div_one, Nat.mod_one]
  simp
theorem pw_neg (b : Nat) (h : ex b < 1075) : ∃ k : Nat, 1 ≤ k ∧ k ≤ 1074 ∧ pw b = -(k : Int) := by
  unfold pw
  split
  · exact ⟨1074, by omega, by omega, rfl⟩
  · exact ⟨1075 - ex b, by omega, by omega, by omega⟩
theorem floorMag_down (b k : Nat) (h : pw b = -(k : Int)) : floorMag b = mag b / 2 ^ k + (neg b && mag b % 2 ^ k != 0).toNat := by
  unfold floorMag
  rw [h, show (-(k : Int)).toNat = 0 from by omega, show (- -(k : Int)).toNat = k from by omega, Nat.pow_zero, Nat.mul_one]
theorem half_le (m k : Nat) (hk : 1 ≤ k) (x : Bool) : m / 2 ^ k + x.toNat ≤ m / 2 + 1 := by
  have : m / 2 ^ k ≤ m / 2 := Nat.div_le_div_left (by rw [show k = (k - 1) + 1 from by omega, Nat.pow_succ]; have := Nat.two_pow_pos (k - 1); omega) (by omega)
  have : x.toNat ≤ 1 := Bool.toNat_le x
  omega
theorem log2_le_of (m k : Nat) (h : m < 2 ^ (k + 1)) : m.log2 ≤ k := by
  by_cases h0 : m = 0
  · subst h0; simp
  · have := (Nat.log2_lt h0).2 h; omega
theorem log2_eq_of (m k : Nat) (h : 2 ^ k ≤ m) (h' : m < 2 ^ (k + 1)) : m.log2 = k := by
  have h0 : m ≠ 0 := by have := Nat.two_pow_pos k; omega
  have := (Nat.le_log2 h0).2 h
  have := (Nat.log2_lt h0).2 h'
  omega
theorem mag_ge (b : Nat) (h : ex b ≠ 0) : 4503599627370496 ≤ mag b := by unfold mag; rw [if_neg h]; omega

theorem floorMag_ok (b : Nat) (h : ex b < 1085) : whole53 (floorMag b) ∧ floorMag b < 4611686018427387904 := by
  have hm := mag_lt b
  by_cases hx : 1075 ≤ ex b
  · rw [floorMag_up b hx]
    have hg := mag_ge b (by omega)
    obtain ⟨j, hj⟩ : ∃ j, j = ex b - 1075 := ⟨_, rfl⟩
    rw [← hj]
    have hj9 : j ≤ 9 := by omega
    have h2 : 2 ^ j ≤ 512 := by
      have : 2 ^ j ≤ 2 ^ 9 := Nat.pow_le_pow_right (by omega) hj9
      omega
    have hpos := Nat.two_pow_pos j
    have e1 : 2 ^ (52 + j) = 4503599627370496 * 2 ^ j := by rw [Nat.pow_add]
    have e2 : 2 ^ (52 + j + 1) = 9007199254740992 * 2 ^ j := by rw [show 52 + j + 1 = 53 + j from by omega, Nat.pow_add]
    have l1 : 4503599627370496 * 2 ^ j ≤ mag b * 2 ^ j := Nat.mul_le_mul_right _ hg
    have l2 : mag b * 2 ^ j < 9007199254740992 * 2 ^ j := Nat.mul_lt_mul_of_pos_right hm hpos
    have hlog := log2_eq_of (mag b * 2 ^ j) (52 + j) (by omega) (by omega)
    constructor
    · right
      rw [hlog, show 52 + j - 52 = j from by omega]
      exact Nat.mul_mod_left _ _
    · omega
  · obtain ⟨k, hk1, hk2, hk⟩ := pw_neg b (by omega)
    rw [floorMag_down b k hk]
    have := half_le (mag b) k hk1 (neg b && mag b % 2 ^ k != 0)
    constructor
    · left
      exact log2_le_of _ 52 (by omega)
    · omega

theorem floor_back (b : Nat) (h : ex b < 1085) :
    (double.read (double.write ((Datum.number (neg b) (mag b) (pw b)).integral .down))).toInt .zero = some (floorV b) := by
  have hm := floorMag_ok b h
  have e : (Datum.number (neg b) (mag b) (pw b)).integral .down = .number (neg b) (floorMag b) 0 := by
    unfold Datum.integral floorMag
    simp only []
    rw [cut_down, shl]
  rw [e]
  show (double.read (double.nearest (neg b) (floorMag b) 0)).toInt .zero = _
  rw [back_int _ _ hm.1 (by omega)]
  rfl

theorem ex_abs (b : Nat) : ex (b % 9223372036854775808) = ex b := by unfold ex; omega
theorem fr_abs (b : Nat) : fr (b % 9223372036854775808) = fr b := by unfold fr; omega
theorem mag_abs (b : Nat) : mag (b % 9223372036854775808) = mag b := by unfold mag; rw [ex_abs, fr_abs]
theorem pw_abs (b : Nat) : pw (b % 9223372036854775808) = pw b := by unfold pw; rw [ex_abs]
theorem neg_abs (b : Nat) : neg (b % 9223372036854775808) = false := by unfold neg; simp; omega

theorem kind_nan (b : Nat) : kind b = 0 ↔ ex b = 2047 ∧ fr b ≠ 0 := by
  unfold kind; split <;> split <;> (try split) <;> omega
theorem kind_inf (b : Nat) : kind b = 1 ↔ ex b = 2047 ∧ fr b = 0 := by
  unfold kind; split <;> split <;> (try split) <;> omega

theorem read_limit : double.read 4886405595696988160 = .number false 4503599627370496 10 := by decide
theorem read_null : double.read 0 = .number false 0 (-1074) := by decide

theorem icmp_lt (a b : Int) (h : a < b) : Ord.compare a b = .lt := by
  show compareOfLessAndEq a b = _
  unfold compareOfLessAndEq
  rw [if_pos h]
theorem icmp_ge (a b : Int) (h : ¬ a < b) : (some (Ord.compare a b) == some Ordering.gt || some (Ord.compare a b) == some Ordering.eq) = true := by
  have e : Ord.compare a b = compareOfLessAndEq a b := rfl
  rw [e]
  unfold compareOfLessAndEq
  rw [if_neg h]
  split <;> rfl

/-- Is its amount 2^62 at least? -/
theorem order_limit (b : Nat) (h : kind b ≠ 0) :
    (double.order (b % 9223372036854775808) 4886405595696988160 == some .gt || double.order (b % 9223372036854775808) 4886405595696988160 == some .eq) = decide (1085 ≤ ex b) := by
  have hn : ¬ (ex b = 2047 ∧ fr b ≠ 0) := fun c => h ((kind_nan b).2 c)
  have hlt : b % 9223372036854775808 < 18446744073709551616 := by omega
  unfold Format.order
  rw [read_limit]
  by_cases h7 : ex b = 2047
  · have hf : fr b = 0 := by omega
    rw [read_inf _ hlt (by rw [ex_abs]; exact h7) (by rw [fr_abs]; exact hf), neg_abs]
    simp [Datum.order, h7]
  · rw [read_num _ hlt (by rw [ex_abs]; exact h7), neg_abs, mag_abs, pw_abs]
    have hm := mag_lt b
    unfold Datum.order
    simp only []
    by_cases h8 : 1085 ≤ ex b
    · have hp : pw b = (ex b : Int) - 1075 := by unfold pw; rw [if_neg (by omega)]
      have hg := mag_ge b (by omega)
      rw [hp, show min ((ex b : Int) - 1075) 10 = 10 from by omega, show ((ex b : Int) - 1075 - 10).toNat = ex b - 1085 from by omega, show ((10 : Int) - 10).toNat = 0 from rfl]
      unfold signed
      rw [shl, shl, Nat.pow_zero, Nat.mul_one]
      simp only [Bool.false_eq_true, if_false]
      have hpos := Nat.two_pow_pos (ex b - 1085)
      have hge : mag b ≤ mag b * 2 ^ (ex b - 1085) := Nat.le_mul_of_pos_right _ hpos
      have hnl : ¬ ((mag b * 2 ^ (ex b - 1085) : Nat) : Int) < ((4503599627370496 : Nat) : Int) := by omega
      rw [show decide (1085 ≤ ex b) = true from by simpa using h8]
      exact icmp_ge _ _ hnl
    · have hp : pw b ≤ 9 ∧ -1074 ≤ pw b := by unfold pw; split <;> omega
      rw [show min (pw b) 10 = pw b from by omega, show (pw b - pw b).toNat = 0 from by omega]
      unfold signed
      rw [shl, shl, Nat.pow_zero, Nat.mul_one]
      simp only [Bool.false_eq_true, if_false]
      have hpos : 2 ≤ 2 ^ (10 - pw b).toNat := by
        rw [show (10 - pw b).toNat = (9 - pw b).toNat + 1 from by omega, Nat.pow_succ]
        have := Nat.two_pow_pos (9 - pw b).toNat
        omega
      have hge : 4503599627370496 * 2 ≤ 4503599627370496 * 2 ^ (10 - pw b).toNat := Nat.mul_le_mul_left _ hpos
      have hl : ((mag b : Nat) : Int) < ((4503599627370496 * 2 ^ (10 - pw b).toNat : Nat) : Int) := by omega
      rw [show decide (1085 ≤ ex b) = false from by simpa using h8]
      rw [icmp_lt _ _ hl]
      rfl

/-- May it be a rate? Not NaN, not infinite, not below 0. -/
def rateB (b : Nat) : Bool := decide (ex b ≠ 2047) && (!neg b || decide (mag b = 0))
theorem order_null (b : Nat) (hb : b < 18446744073709551616) (h : ex b ≠ 2047) :
    (double.order b 0 == some .gt || double.order b 0 == some .eq) = rateB b := by
  unfold Format.order rateB
  rw [read_null, read_num b hb h]
  unfold Datum.order
  simp only []
  have hs : signed false 0 (-1074 - min (pw b) (-1074)).toNat = 0 := by unfold signed; rw [shl, Nat.zero_mul]; rfl
  rw [hs]
  have hpos := Nat.two_pow_pos (pw b - min (pw b) (-1074)).toNat
  rw [show decide (ex b ≠ 2047) = true from by simpa using h, Bool.true_and]
  unfold signed
  rw [shl]
  cases hn : neg b
  · simp only [Bool.false_eq_true, if_false, Bool.not_false, Bool.true_or]
    exact icmp_ge _ _ (by omega)
  · simp only [if_true, Bool.not_true, Bool.false_or]
    by_cases h0 : mag b = 0
    · rw [h0, Nat.zero_mul]
      rfl
    · rw [show decide (mag b = 0) = false from by simpa using h0]
      have : 0 < mag b * 2 ^ (pw b - min (pw b) (-1074)).toNat := Nat.mul_pos (by omega) hpos
      rw [icmp_lt _ _ (by omega)]
      rfl
theorem order_null_nan (b : Nat) (h : ex b = 2047) (h' : fr b ≠ 0) :
    (double.order b 0 == some .gt || double.order b 0 == some .eq) = false := by
  obtain ⟨s, t, e⟩ := read_nan b h h'
  unfold Format.order
  rw [read_null, e]
  rfl
end Go.Proofs.Ytleajpcoklmgkaa.Gm
