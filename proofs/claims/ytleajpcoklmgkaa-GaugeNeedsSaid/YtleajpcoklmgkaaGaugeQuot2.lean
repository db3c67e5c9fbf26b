/- The quotient of two small whole numbers, rounded by float64, has the floor of the exact one. No program is named here. -/
import Derived.Test.YtleajpcoklmgkaaGaugeQuot
namespace Go.Proofs.Ytleajpcoklmgkaa.Gm
open Ieee

theorem two_div (x k : Nat) (hk : 1 ≤ k) : 2 * x / 2 ^ k = x / 2 ^ (k - 1) ∧ (2 * x % 2 ^ k = 0 ↔ x % 2 ^ (k - 1) = 0) := by
  have e : 2 ^ k = 2 * 2 ^ (k - 1) := by rw [show k = (k - 1) + 1 from by omega, Nat.pow_succ]; simp; omega
  rw [e, Nat.mul_div_mul_left _ _ (by omega), Nat.mul_mod_mul_left]
  exact ⟨rfl, by omega⟩

theorem min_rung (k kept : Nat) (hk1 : 2 ≤ k) (hk2 : k ≤ 1000) (khi : kept ≤ 9007199254740992) :
    min ((-(k : Int) - -1074).toNat * 4503599627370496 + kept) 9218868437227405312 = (1074 - k) * 4503599627370496 + kept := by
  rw [show (-(k : Int) - -1074).toNat = 1074 - k from by omega]
  refine Nat.min_eq_left ?_
  obtain ⟨j, hj⟩ : ∃ j, j = 1074 - k := ⟨_, rfl⟩
  have hj2 : j ≤ 1072 := by omega
  rw [← hj]
  clear hj hk1 hk2
  omega
theorem next_rung (k : Nat) (hk2 : k ≤ 1000) : (1074 - k) * 4503599627370496 + 9007199254740992 = (1075 - k) * 4503599627370496 + 4503599627370496 := by
  have e : 1075 - k = (1074 - k) + 1 := by omega
  obtain ⟨j, hj⟩ : ∃ j, j = 1074 - k := ⟨_, rfl⟩
  rw [e, ← hj]
  clear e hj hk2
  omega

theorem carry_floor (s : Bool) (k : Nat) (hk : 1 ≤ k) : 4503599627370496 / 2 ^ (k - 1) + (s && 4503599627370496 % 2 ^ (k - 1) != 0).toNat = 9007199254740992 / 2 ^ k + (s && 9007199254740992 % 2 ^ k != 0).toNat := by
  have t := two_div 4503599627370496 k hk
  have e : 2 * 4503599627370496 = 9007199254740992 := by decide
  rw [e] at t
  have hb : (9007199254740992 % 2 ^ k != 0) = (4503599627370496 % 2 ^ (k - 1) != 0) := by
    rw [Bool.eq_iff_iff, bne_iff_ne, bne_iff_ne]
    exact not_congr t.2
  rw [t.1, hb]

/-- What the nearest word has where digits are dropped. -/
theorem nearest_round (s : Bool) (q d k kept : Nat) (p : Int) (hkept : kept = Toward.even.cut s q d) (hq : q.log2 = 52 + d) (hd : 1 ≤ d) (hp : p + d = -(k : Int)) (hk1 : 2 ≤ k) (hk2 : k ≤ 1000) :
    double.nearest s q p < 18446744073709551616 ∧ ex (double.nearest s q p) < 1075 ∧ neg (double.nearest s q p) = s ∧
      floorMag (double.nearest s q p) = kept / 2 ^ k + (s && kept % 2 ^ k != 0).toNat := by
  have hq0 : q ≠ 0 := by intro c; rw [c] at hq; simp at hq; omega
  have l1 := Nat.log2_self_le hq0
  have l2 := @Nat.lt_log2_self q
  rw [hq] at l1 l2
  have herr := even_err s q d hd
  rw [← hkept] at herr
  have hpd : 2 ^ d = 2 * 2 ^ (d - 1) := by rw [show d = (d - 1) + 1 from by omega, Nat.pow_succ]; simp; omega
  have hpos := Nat.two_pow_pos (d - 1)
  have e1 : 2 ^ (52 + d) = 4503599627370496 * 2 ^ d := by rw [Nat.pow_add]
  have e2 : 2 ^ (52 + d + 1) = 9007199254740992 * 2 ^ d := by rw [show 52 + d + 1 = 53 + d from by omega, Nat.pow_add]
  have klo : 4503599627370496 ≤ kept := by
    have h : (4503599627370496 - 1) * 2 ^ d < kept * 2 ^ d := by
      rw [Nat.sub_mul]; omega
    have := Nat.lt_of_mul_lt_mul_right h
    omega
  have khi : kept ≤ 9007199254740992 := by
    have h : kept * 2 ^ d < (9007199254740992 + 1) * 2 ^ d := by
      rw [Nat.add_mul]; omega
    have := Nat.lt_of_mul_lt_mul_right h
    omega
  have hval : double.nearest s q p = (if s then 9223372036854775808 else 0) + ((1074 - k) * 4503599627370496 + kept) := by
    have hfb : ((double.fractionBits : Nat) : Int) = 52 := rfl
    unfold Format.nearest
    simp only [dbl_bin, dbl_inf, dbl_least]
    rw [if_neg hq0, hfb, hq]
    have hmax : max (p + ((52 + d : Nat) : Int) - 52) (-1074) = -(k : Int) := by omega
    rw [hmax, show (p - -(k : Int)).toNat = 0 from by omega, show (-(k : Int) - p).toNat = d from by omega, shl, Nat.pow_zero, Nat.mul_one, ← hkept]
    rw [min_rung k kept hk1 hk2 khi]
    unfold Format.word
    rw [dbl_sign]
    cases s <;> simp
  rw [hval]
  clear hval e1 e2 l1 l2 herr hpd hpos hp hq hkept hq0
  by_cases hc : kept = 9007199254740992
  · rw [hc, next_rung k hk2]
    obtain ⟨a, b, c, e⟩ := parts_exact s (1075 - k) 4503599627370496 (by omega) (by omega) (by omega)
    refine ⟨a, by omega, e, ?_⟩
    have hpw := floorMag_down ((if s then 9223372036854775808 else 0) + ((1075 - k) * 4503599627370496 + 4503599627370496)) (k - 1) (by unfold pw; rw [b, if_neg (by omega)]; omega)
    rw [hpw, e]
    have hm : mag ((if s then 9223372036854775808 else 0) + ((1075 - k) * 4503599627370496 + 4503599627370496)) = 4503599627370496 := by
      unfold mag; rw [b, if_neg (by omega), c]
    rw [hm]
    exact carry_floor s k (by omega)
  · obtain ⟨a, b, c, e⟩ := parts_exact s (1074 - k) kept (by omega) klo (by omega)
    refine ⟨a, by omega, e, ?_⟩
    have hpw := floorMag_down ((if s then 9223372036854775808 else 0) + ((1074 - k) * 4503599627370496 + kept)) k (by unfold pw; rw [b, if_neg (by omega)]; omega)
    rw [hpw, e]
    have hm : mag ((if s then 9223372036854775808 else 0) + ((1074 - k) * 4503599627370496 + kept)) = kept := by
      unfold mag; rw [b, if_neg (by omega), c]; omega
    rw [hm]

theorem kept_near (s : Bool) (a b d k : Nat) (hb0 : b ≠ 0) (hla : a.log2 ≤ 50) (hlb : b.log2 ≤ 50) (hd : 1 ≤ d)
    (hk : k + d + a.log2 = 55 + b.log2) :
    Toward.even.cut s (quo (keep a) (keep b)) d * b ≤ a * 2 ^ k + b ∧ a * 2 ^ k ≤ Toward.even.cut s (quo (keep a) (keep b)) d * b + b := by
  have he := even_err s (quo (keep a) (keep b)) d hd
  have hn0 : 0 < keep b := by have := keep_bd b hb0; omega
  have hq := quo_err (keep a) (keep b) hn0
  obtain ⟨K, hK⟩ : ∃ K, K = Toward.even.cut s (quo (keep a) (keep b)) d := ⟨_, rfl⟩
  obtain ⟨Q, hQ⟩ : ∃ Q, Q = quo (keep a) (keep b) := ⟨_, rfl⟩
  rw [← hK]
  rw [← hK, ← hQ] at he
  rw [← hQ] at hq
  clear hK hQ
  rw [keep_small a (by omega), keep_small b (by omega)] at hq
  have hpd : 2 ^ d = 2 * 2 ^ (d - 1) := by rw [show d = (d - 1) + 1 from by omega, Nat.pow_succ]; simp; omega
  have hpos := Nat.two_pow_pos (d - 1)
  obtain ⟨W, hW⟩ : ∃ W, W = 2 ^ (52 - b.log2) := ⟨_, rfl⟩
  have hWp : 0 < W := by rw [hW]; exact Nat.two_pow_pos _
  have ea : 2 * (a * 2 ^ (52 - a.log2) * 2 ^ 54) = a * 2 ^ k * (2 ^ d * W) := by
    rw [hW, ← Nat.pow_add, Nat.mul_assoc a, Nat.mul_assoc a, ← Nat.pow_add, ← Nat.pow_add]
    rw [show 2 * (a * 2 ^ (52 - a.log2 + 54)) = a * (2 ^ (52 - a.log2 + 54) * 2) from by rw [Nat.mul_comm 2, Nat.mul_assoc], ← Nat.pow_succ]
    congr 2
    omega
  rw [ea, ← hW] at hq
  -- everything times b * W
  have h1 : K * 2 ^ d * (b * W) ≤ (Q + 2 ^ (d - 1)) * (b * W) := Nat.mul_le_mul_right _ he.1
  have h2 : Q * (b * W) ≤ (K * 2 ^ d + 2 ^ (d - 1)) * (b * W) := Nat.mul_le_mul_right _ he.2
  have h3 : 1 * (b * W) ≤ 2 ^ (d - 1) * (b * W) := Nat.mul_le_mul_right _ hpos
  rw [Nat.add_mul] at h1 h2
  have c1 : K * 2 ^ d * (b * W) = K * b * (2 ^ d * W) := by
    rw [Nat.mul_assoc, Nat.mul_assoc, Nat.mul_left_comm (2 ^ d) b W]
  have c2 : 2 ^ (d - 1) * (b * W) + 2 ^ (d - 1) * (b * W) = b * (2 ^ d * W) := by
    rw [hpd, Nat.mul_left_comm b, Nat.mul_assoc, Nat.two_mul]
  have hZ : 0 < 2 ^ d * W := Nat.mul_pos (Nat.two_pow_pos d) hWp
  constructor
  · refine Nat.le_of_mul_le_mul_right ?_ hZ
    rw [Nat.add_mul]
    omega
  · refine Nat.le_of_mul_le_mul_right ?_ hZ
    rw [Nat.add_mul]
    omega
end Go.Proofs.Ytleajpcoklmgkaa.Gm
