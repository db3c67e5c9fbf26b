/- The floor of a rounded quotient of two small whole numbers. No program is named here. -/
import Derived.Test.YtleajpcoklmgkaaGaugeQuot2
namespace Go.Proofs.Ytleajpcoklmgkaa.Gm
open Ieee

theorem quo_exact (a b q e : Nat) (hb0 : b ≠ 0) (hla : a.log2 ≤ 50) (hlb : b.log2 ≤ 50) (hq : a = q * b) (he : e + a.log2 = 54 + b.log2) :
    quo (keep a) (keep b) = q * 2 ^ (e + 1) := by
  have hn := keep_bd b hb0
  have h1 : keep a * 2 ^ 54 = keep b * (q * 2 ^ e) := by
    rw [keep_small a (by omega), keep_small b (by omega)]
    have e1 : a * 2 ^ (52 - a.log2) * 2 ^ 54 = a * 2 ^ (52 - a.log2 + 54) := by rw [Nat.mul_assoc, ← Nat.pow_add]
    have e2 : b * 2 ^ (52 - b.log2) * (q * 2 ^ e) = q * b * 2 ^ (52 - b.log2 + e) := by
      rw [Nat.pow_add, Nat.mul_comm b, Nat.mul_mul_mul_comm, Nat.mul_comm (2 ^ (52 - b.log2)) q, Nat.mul_mul_mul_comm]
    rw [e1, e2, ← hq]
    congr 2
    omega
  have h2 : keep a * 2 ^ 54 / keep b = q * 2 ^ e := by rw [h1]; exact Nat.mul_div_cancel_left _ (by omega)
  have h3 : keep a * 2 ^ 54 % keep b = 0 := by rw [h1]; exact Nat.mul_mod_right _ _
  unfold quo
  rw [h2, h3, Nat.pow_succ]
  show 2 * (q * 2 ^ e) + 0 = _
  rw [Nat.add_zero, Nat.mul_left_comm, Nat.mul_comm 2]

theorem kept_floor (s : Bool) (a b d k : Nat) (ha : a ≤ 1048576) (hb0 : b ≠ 0) (hb : b ≤ 1048576) (hd : 1 ≤ d) (hk : k + d + a.log2 = 55 + b.log2) (hk2 : 21 ≤ k) (kept : Nat) (hkept : kept = Toward.even.cut s (quo (keep a) (keep b)) d) :
    kept / 2 ^ k = a / b ∧ (kept % 2 ^ k = 0 ↔ a % b = 0) := by
  have hla := small_whole a (by omega)
  have hlb := small_whole b (by omega)
  have hnear := kept_near s a b d k hb0 hla hlb hd hk
  rw [← hkept] at hnear
  have hp := Nat.two_pow_pos k
  have hbig : 2097152 ≤ 2 ^ k := Nat.pow_le_pow_right (n := 2) (by omega) hk2
  have hdm := Nat.div_add_mod a b
  by_cases h0 : a % b = 0
  · have hq : a = a / b * b := by rw [Nat.mul_comm]; omega
    have hQ := quo_exact a b (a / b) (k + d - 1) hb0 hla hlb hq (by omega)
    rw [show k + d - 1 + 1 = k + d from by omega, Nat.pow_add, ← Nat.mul_assoc] at hQ
    have e : kept = a / b * 2 ^ k := by
      rw [hkept, hQ, cut_even_exact _ _ _ (Nat.mul_mod_left _ _)]
      exact Nat.mul_div_cancel _ (Nat.two_pow_pos d)
    rw [e, Nat.mul_div_cancel _ hp, Nat.mul_mod_left]
    exact ⟨rfl, by omega⟩
  · obtain ⟨q, hq⟩ : ∃ q, q = a / b := ⟨_, rfl⟩
    obtain ⟨r, hr⟩ : ∃ r, r = a % b := ⟨_, rfl⟩
    obtain ⟨P, hP⟩ : ∃ P, P = 2 ^ k := ⟨_, rfl⟩
    have hrl : r < b := by rw [hr]; exact Nat.mod_lt _ (by omega)
    rw [← hq, ← hr] at hdm
    rw [← hr] at h0
    rw [← hP] at hnear hbig hp
    rw [← hP, ← hq, ← hr]
    have ea : a * P = q * P * b + r * P := by
      rw [← hdm, Nat.add_mul, Nat.mul_comm b q, Nat.mul_right_comm]
    have hr1 : 1 * P ≤ r * P := Nat.mul_le_mul_right _ (by omega)
    have hr2 : r * P ≤ (b - 1) * P := Nat.mul_le_mul_right _ (by omega)
    rw [Nat.sub_mul] at hr2
    have hbP : 1 * P ≤ b * P := Nat.mul_le_mul_right _ (by omega)
    have lo : q * P * b < kept * b := by omega
    have hi : kept * b < (q * P + P) * b := by
      rw [Nat.add_mul, Nat.mul_comm P b]
      omega
    have lo' := Nat.lt_of_mul_lt_mul_right lo
    have hi' := Nat.lt_of_mul_lt_mul_right hi
    have hdiv : kept / P = q := by
      have e1 := (Nat.le_div_iff_mul_le hp).2 (Nat.le_of_lt lo')
      have e2 : kept / P < q + 1 := (Nat.div_lt_iff_lt_mul hp).2 (by rw [Nat.add_mul, Nat.one_mul]; exact hi')
      omega
    refine ⟨hdiv, ?_⟩
    have hmod := Nat.div_add_mod kept P
    rw [hdiv, Nat.mul_comm] at hmod
    constructor
    · intro c; omega
    · intro c; exact absurd c h0

theorem ratio_floor (s : Bool) (a b : Nat) (ha0 : a ≠ 0) (ha : a ≤ 1048576) (hb0 : b ≠ 0) (hb : b ≤ 1048576) (R : Nat)
    (hR : R = double.nearest s (quo (keep a) (keep b)) ((a.log2 : Int) - b.log2 - 55)) :
    R < 18446744073709551616 ∧ ex R < 1075 ∧ neg R = s ∧ floorMag R = a / b + (s && a % b != 0).toNat := by
  have hla := log2_le_of a 20 (by omega)
  have hlb := log2_le_of b 20 (by omega)
  have hka := keep_bd a ha0
  have hkb := keep_bd b hb0
  have hq := quo_bd (keep a) (keep b) hka.1 hka.2 hkb.1 hkb.2
  have hL : (quo (keep a) (keep b)).log2 = 54 ∨ (quo (keep a) (keep b)).log2 = 55 := by
    by_cases h : quo (keep a) (keep b) < 36028797018963968
    · exact .inl (log2_eq_of _ 54 hq.1 h)
    · exact .inr (log2_eq_of _ 55 (by omega) hq.2)
  obtain ⟨d, hd1, hd2, hdL⟩ : ∃ d, 1 ≤ d ∧ d ≤ 3 ∧ (quo (keep a) (keep b)).log2 = 52 + d := by
    rcases hL with h | h
    · exact ⟨2, by omega, by omega, h⟩
    · exact ⟨3, by omega, by omega, h⟩
  obtain ⟨k, hk⟩ : ∃ k, k = 55 + b.log2 - a.log2 - d := ⟨_, rfl⟩
  obtain ⟨kept, hkept⟩ : ∃ kept, kept = Toward.even.cut s (quo (keep a) (keep b)) d := ⟨_, rfl⟩
  have hn := nearest_round s (quo (keep a) (keep b)) d k kept ((a.log2 : Int) - b.log2 - 55) hkept hdL hd1 (by omega) (by omega) (by omega)
  have hf := kept_floor s a b d k ha hb0 hb hd1 (by omega) (by omega) kept hkept
  rw [← hR] at hn
  refine ⟨hn.1, hn.2.1, hn.2.2.1, ?_⟩
  rw [hn.2.2.2, hf.1]
  have e : (kept % 2 ^ k != 0) = (a % b != 0) := by
    rw [Bool.eq_iff_iff, bne_iff_ne, bne_iff_ne]
    exact not_congr hf.2
  rw [e]
end Go.Proofs.Ytleajpcoklmgkaa.Gm
