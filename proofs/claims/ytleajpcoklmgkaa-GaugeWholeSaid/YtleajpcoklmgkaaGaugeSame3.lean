/- gauge.Need and the document's own are the same. -/
import Derived.Test.YtleajpcoklmgkaaGaugeSame2
namespace Go.Proofs.Ytleajpcoklmgkaa
open Go.ChangeShapes Go.WideShapes Go.ChangeAt Go.RowKit

theorem rated (n : Nat) (h : Gm.rateB n = true) : Rated n := by
  unfold Gm.rateB at h
  have k0 := Gm.kind_nan n
  have k1 := Gm.kind_inf n
  have k2 := kind_zero n
  have mz := mag_zero n
  simp only [Bool.and_eq_true, decide_eq_true_eq, Bool.or_eq_true, Bool.not_eq_true'] at h
  unfold Rated
  refine ⟨by simp only [beq_eq_false_iff_ne, ne_eq]; omega, by simp only [beq_eq_false_iff_ne, ne_eq]; omega, ?_⟩
  rcases h.2 with hs | hm
  · exact .inl hs
  · cases hs : Gm.neg n
    · exact .inl rfl
    · exact .inr ⟨rfl, by simp only [bne_eq_false_iff_eq]; omega⟩

theorem dbl_log (m p : Nat) (h0 : m ≠ 0) (h : 62 ≤ m.log2 + p) : 4611686018427387904 ≤ dbl m p := by
  have h1 := Nat.log2_self_le h0
  have h2 : 2 ^ m.log2 * 2 ^ p ≤ m * 2 ^ p := Nat.mul_le_mul_right _ h1
  have h3 : 2 ^ 62 ≤ 2 ^ m.log2 * 2 ^ p := by rw [← Nat.pow_add]; exact Nat.pow_le_pow_right (by omega) h
  unfold dbl
  omega
theorem dbl_small (m p : Nat) (h : m.log2 + 1 + p ≤ 62) : dbl m p < 4611686018427387904 := by
  have a := @Nat.lt_log2_self m
  have b : 2 ^ (m.log2 + 1) * 2 ^ p ≤ 2 ^ 62 := by rw [← Nat.pow_add]; exact Nat.pow_le_pow_right (by omega) (by omega)
  have c : m * 2 ^ p < 2 ^ (m.log2 + 1) * 2 ^ p := Nat.mul_lt_mul_of_pos_right a (Nat.two_pow_pos _)
  unfold dbl
  omega

theorem need_same (n : Nat) (k : Int) (hn : n < 18446744073709551616) : ∃ v e, Gives 21 #[.float .f64 n, .int .i64 k] v e ∧ Gives 22 #[.int .u64 (n : Int), .int .i64 k] v e := by
  cases hr : Gm.rateB n
  · refine ⟨0, 1, fun w => need_norate n k w hn hr, ?_⟩
    by_cases h0 : Gm.kind n = 0
    · exact rneed_nan n k hn h0
    · by_cases h1 : Gm.kind n = 1
      · exact rneed_inf n k hn h1
      · have k0 := Gm.kind_nan n
        have k1 := Gm.kind_inf n
        have k2 := kind_zero n
        have mz := mag_zero n
        unfold Gm.rateB at hr
        have hx : Gm.ex n ≠ 2047 := by omega
        rw [show decide (Gm.ex n ≠ 2047) = true from by simpa using hx, Bool.true_and] at hr
        simp only [Bool.or_eq_false_iff, Bool.not_eq_false', decide_eq_false_iff_not] at hr
        exact rneed_minus n k hn h0 h1 hr.1 (by omega)
  · have hR := rated n hr
    by_cases hlo : k < 0
    · exact ⟨0, 1, fun w => need_low n k w hn hr hlo, rneed_low n k hn hR hlo⟩
    · by_cases hhi : 1000 < k
      · exact ⟨0, 1, fun w => need_high n k w hn hr hhi, rneed_high n k hn hR hhi⟩
      · obtain ⟨j, rfl⟩ : ∃ j : Nat, k = (j : Int) := ⟨k.toNat, by omega⟩
        have hj : j ≤ 1000 := by omega
        have hpl := prod_lt n j hj
        have hpb := Gm.pw_bd n
        by_cases hj0 : j = 0
        · subst hj0
          exact ⟨0, 0, fun w => need_zero n 0 w hn hr hj (by simp [prod]), rneed_none n hn hR⟩
        · by_cases hp0 : prod n j = 0
          · refine ⟨0, 0, fun w => need_zero n j w hn hr hj hp0, ?_⟩
            refine rneed_ok n j 0 false hn hR (by omega) hj (by omega) fun w => ?_
            rw [hp0]
            by_cases hpw : 0 ≤ Gm.pw n
            · obtain ⟨p, hp⟩ : ∃ p : Nat, Gm.pw n = (p : Int) := ⟨(Gm.pw n).toNat, by omega⟩
              rw [hp]
              have := rwhole_up 0 p w (by omega) (by omega) (by simp [dbl])
              rw [show dbl 0 p = 0 from by simp [dbl]] at this
              exact this
            · obtain ⟨p, hp⟩ : ∃ p : Nat, Gm.pw n = -(p : Int) := ⟨(-Gm.pw n).toNat, by omega⟩
              rw [hp]
              have := rwhole_down 0 p w (by omega) (by omega) (by omega)
              rw [show hlf 0 p = 0 from by simp [hlf], show lft 0 p = false from by simp [lft]] at this
              exact this
          · by_cases hpw : 0 ≤ Gm.pw n
            · obtain ⟨p, hp⟩ : ∃ p : Nat, Gm.pw n = (p : Int) := ⟨(Gm.pw n).toNat, by omega⟩
              by_cases hL : (prod n j).log2 + 1 + p ≤ 62
              · refine ⟨((dbl (prod n j) p : Nat) : Int), 0, fun w => need_up n j p w hn hr hj hp0 hp (by omega), ?_⟩
                have hs := dbl_small (prod n j) p hL
                refine rneed_ok n j (dbl (prod n j) p) false hn hR (by omega) hj hs fun w => ?_
                rw [hp]
                exact rwhole_up (prod n j) p w (by omega) (by omega) hs
              · refine ⟨0, 2, fun w => need_range n j w hn hr hj hp0 (by omega), ?_⟩
                refine rneed_over n j 0 false hn hR (by omega) hj fun w => ?_
                rw [hp]
                exact rwhole_over (prod n j) p w (by omega) (by omega) (dbl_log _ _ hp0 (by omega))
            · obtain ⟨p, hp⟩ : ∃ p : Nat, Gm.pw n = -(p : Int) := ⟨(-Gm.pw n).toNat, by omega⟩
              refine ⟨((up (prod n j) p : Nat) : Int), 0, fun w => need_down n j p w hn hr hj hp0 (by omega) hp, ?_⟩
              have hh := Gm.half_le (prod n j) p (by omega) false
              refine rneed_ok n j (hlf (prod n j) p) (lft (prod n j) p) hn hR (by omega) hj ?_ fun w => ?_
              · have t0 : false.toNat = 0 := rfl
                unfold hlf
                omega
              · rw [hp]
                exact rwhole_down (prod n j) p w (by omega) (by omega) (by omega)
end Go.Proofs.Ytleajpcoklmgkaa
