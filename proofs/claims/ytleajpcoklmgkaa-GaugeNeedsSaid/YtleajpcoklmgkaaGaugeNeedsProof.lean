/- GaugeNeeds: of a rate that is a whole number, up to 2^40, as many as it is, each time; of any rate once as many as its floor, and one more, if it is not whole; twice no more than two times once. No condition. -/
import Derived.Test.YtleajpcoklmgkaaRows
import Derived.Test.YtleajpcoklmgkaaGaugeNeed3
import Derived.Deep.DeepCutAuto
import Derived.WalkKit
import Derived.ProofKit
import Derived.OpenShut
import Derived.ShutString
namespace Go.Proofs.Ytleajpcoklmgkaa.gaugeNeeds
open Go.ChangeShapes Go.WideShapes Go.ChangeAt Go.RowKit
open Go.ChangeMaps (open_string shut_string)
set_option linter.unusedVariables false      -- a walk need not use every 'w<i>' (that an integer argument fits its kind)

theorem own : ownKnob Try.prog.godebug = none := by kernel_rfl

theorem nat_of {a : Int} (h : (Lit.int .u64 a).wf = true) : ∃ n : Nat, n < 18446744073709551616 ∧ a = (n : Int) := by
  have := bounds_u64 h
  exact ⟨a.toNat, by omega, by omega⟩

theorem ratio_one (K : Nat) (h : K ≤ 1099511627776) : ∃ R, R < 18446744073709551616 ∧ Ieee.double.div (floatOfInt .f64 (K : Int)) (floatOfInt .f64 1) = some R ∧ Gm.rateB R = true ∧ (K = 0 → Gm.mag R = 0) ∧ (K ≠ 0 → ∃ p : Nat, 1 ≤ p ∧ Gm.pw R = -(p : Int) ∧ Gm.mag R = K * 2 ^ p) := by
  have f1 : floatOfInt .f64 1 = Gm.ofInt false 1 := of_pos 1
  rw [of_pos K, f1]
  by_cases h0 : K = 0
  · subst h0
    refine ⟨0, by omega, Gm.div_zero_num false false 1 (by omega) (by omega), by decide, fun _ => by decide, fun c => absurd rfl c⟩
  · have hl := Gm.log2_le_of K 40 (by omega)
    have hd := Gm.div_ofInt false false K 1 h0 (by omega) (by omega) (by omega)
    have hl1 : (1 : Nat).log2 = 0 := by decide
    have hq := Gm.quo_exact K 1 K (54 - K.log2) (by omega) (by omega) (by omega) (by omega) (by omega)
    have hL : (K * 2 ^ (54 - K.log2 + 1)).log2 = 55 := by
      have a := Nat.log2_self_le h0
      have b := @Nat.lt_log2_self K
      have e1 : 2 ^ K.log2 * 2 ^ (54 - K.log2 + 1) = 2 ^ 55 := by rw [← Nat.pow_add]; congr 1; omega
      have e2 : 2 ^ (K.log2 + 1) * 2 ^ (54 - K.log2 + 1) = 2 ^ 56 := by rw [← Nat.pow_add]; congr 1; omega
      refine Gm.log2_eq_of _ _ ?_ ?_
      · rw [← e1]; exact Nat.mul_le_mul_right _ a
      · rw [← e2]; exact Nat.mul_lt_mul_of_pos_right b (Nat.two_pow_pos _)
    have e3 : K * 2 ^ (54 - K.log2 + 1) = K * 2 ^ (52 - K.log2) * 2 ^ 3 := by rw [Nat.mul_assoc, ← Nat.pow_add]; congr 2; omega
    rw [hq, hl1] at hd
    have hx : Gm.whole53 (K * 2 ^ (54 - K.log2 + 1)) := by
      right
      rw [hL, e3]
      exact Nat.mul_mod_left _ _
    have hk : Gm.keep (K * 2 ^ (54 - K.log2 + 1)) = K * 2 ^ (52 - K.log2) := by
      unfold Gm.keep
      rw [hL, if_neg (by omega), e3]
      exact Nat.mul_div_cancel _ (Nat.two_pow_pos 3)
    have hne : K * 2 ^ (54 - K.log2 + 1) ≠ 0 := by
      have := Nat.mul_pos (Nat.pos_of_ne_zero h0) (Nat.two_pow_pos (54 - K.log2 + 1))
      omega
    obtain ⟨a, b, c, d, e, f⟩ := Gm.nearest_parts false (K * 2 ^ (54 - K.log2 + 1)) ((K.log2 : Int) - (0 : Nat) - 55) hne hx (by rw [hL]; omega) (by rw [hL]; omega)
    refine ⟨_, a, hd, ?_, fun c => absurd c h0, fun _ => ⟨52 - K.log2, by omega, ?_, ?_⟩⟩
    · unfold Gm.rateB
      rw [f, decide_eq_true b]
      rfl
    · rw [e, hL]
      omega
    · rw [d, hk]

theorem whole_rate (K n : Nat) (h : K ≤ 1099511627776) (hn : n ≤ 1000) : ∃ R, (∀ w, Calls Try.prog 23 #[.int .i64 (K : Int), .int .i64 1] w fun e w' => e = .returned (.float .f64 R) ∧ w = w') ∧ Gives2 21 #[.float .f64 R, .int .i64 (n : Int)] ((K * n : Nat) : Int) 0 := by
  obtain ⟨R, hR, hd, hr, h0, h1⟩ := ratio_one K h
  refine ⟨R, fun w => ratio_any K 1 R w hd, ?_⟩
  by_cases hz : K = 0 ∨ n = 0
  · have e : K * n = 0 := by rcases hz with c | c <;> simp [c]
    have p : prod R n = 0 := by
      unfold prod
      rcases hz with c | c
      · rw [h0 c, Nat.zero_mul]
      · rw [c, Nat.mul_zero]
    rw [e]
    exact fun w => need_zero R n w hR hr hn p
  · obtain ⟨p, hp1, hp, hm⟩ := h1 (by omega)
    have e : prod R n = K * n * 2 ^ p := by unfold prod; rw [hm, Nat.mul_right_comm]
    have hne : prod R n ≠ 0 := by
      rw [e]
      have := Nat.mul_pos (Nat.mul_pos (show 0 < K by omega) (show 0 < n by omega)) (Nat.two_pow_pos p)
      omega
    intro w
    have := need_down R n p w hR hr hn hne hp1 hp
    rw [e, up_exact] at this
    exact this

theorem whole_rate' (k n : Int) (hk : 0 ≤ k) (hk' : k ≤ 1099511627776) (hn : 0 ≤ n) (hn' : n ≤ 1000) : ∃ (R : Nat) (P : Int), (∀ w, Calls Try.prog 23 #[.int .i64 k, .int .i64 1] w fun e w' => e = .returned (.float .f64 R) ∧ w = w') ∧ Gives2 21 #[.float .f64 R, .int .i64 n] P 0 ∧ (P == wrap64 (k * n)) = true := by
  obtain ⟨K, rfl⟩ : ∃ K : Nat, k = (K : Int) := ⟨k.toNat, by omega⟩
  obtain ⟨N, rfl⟩ : ∃ N : Nat, n = (N : Int) := ⟨n.toNat, by omega⟩
  obtain ⟨R, r1, r2⟩ := whole_rate K N (by omega) (by omega)
  refine ⟨R, _, r1, r2, ?_⟩
  have hKn : K * N ≤ 1099511627776 * 1000 := Nat.mul_le_mul (by omega) (by omega)
  rw [← Int.natCast_mul, wrap64_of _ (by omega) (by omega)]
  simp

def One (one e two f low g : Int) : Prop :=
  ((e == 0) = false) ∨
  ((e == 0) = true ∧ (((g == 0) = false) ∨ ((g == 0) = true ∧ (((one != low) = false) ∨ ((one != low) = true ∧ (one != low + 1) = false)))) ∧ (((f == 0) = false) ∨ ((f == 0) = true ∧ decide (2 * one < two) = false ∧ decide (two < one) = false)))
theorem one_of (one e two f low g : Int) (h : Fits one e two f low g) : One one e two f low g := by
  unfold Fits at h
  unfold One
  simp only [beq_eq_false_iff_ne, beq_iff_eq, bne_eq_false_iff_eq, bne_iff_ne, decide_eq_false_iff_not, ne_eq]
  omega
/-! ### STEP 1: THE WALK: the Go text returns true. 'Grown w w'': the world has at most new blocks (Derived/RowKit3.lean). Part the cases AHEAD of 'go_enter' where a test parts the walk; take each callee by a contract of your own. -/
set_option maxRecDepth 100000 in
set_option maxHeartbeats 2000000 in
theorem walk (a0 : Int) (a1 : Int) (a2 : Int) (w0 : (Lit.int .u64 a0).wf = true) (w1 : (Lit.int .i64 a1).wf = true) (w2 : (Lit.int .i64 a2).wf = true) (w : World) :
    Calls Try.prog 8 #[.int .u64 a0, .int .i64 a1, .int .i64 a2] w fun e w' => e = .returned (.bool true) ∧ Grown w w' := by
  obtain ⟨x, hx, rfl⟩ := nat_of w0
  have b1 := bounds_i64 w1
  have b2 := bounds_i64 w2
  obtain ⟨one, e, two, f, low, g, g1, g2, g3, hF⟩ := needs_fit x hx
  have hO := one_of one e two f low g hF
  unfold Fits at hF
  obtain ⟨-, -, o0, o1, l0, l1, -, -, -⟩ := hF
  have G1 := Lib.hid g1
  have G2 := Lib.hid g2
  have G3 := Lib.hid g3
  have HO := Lib.hid hO
  clear w0 w1 w2 g1 g2 g3 hO
  go_enter Try.func8, Try.ntmps8
  go_wp2_with fail
  refine (of_any _ _).mono ?_
  rintro e1 w' ⟨rfl, rfl⟩
  go_wp2_with fail
  refine (G1.out _).mono ?_
  rintro e1 w' ⟨rfl, rfl⟩
  go_wp2_with fail
  refine (G2.out _).mono ?_
  rintro e1 w' ⟨rfl, rfl⟩
  go_wp2_with fail
  refine (G3.out _).mono ?_
  rintro e1 w' ⟨rfl, rfl⟩
  go_upto_region 5 with fail
  go_cut [68] (fun s wx => s = .bool false ∧ wx = w)
  case first =>
    have hO := HO.out
    clear HO
    unfold One at hO
    rcases hO with t1 | ⟨t1, t2 | ⟨t2, t3 | ⟨t3, t4⟩⟩, t5 | ⟨t5, t6, t7⟩⟩
    all_goals
      go_wp2
      go_meet
      exact ⟨rfl, rfl⟩
  case rest =>
    obtain ⟨rfl, rfl⟩ := hcut
    clear HO G1 G2 G3
    by_cases hout : a1 < 0 ∨ 1099511627776 < a1 ∨ a2 < 0 ∨ 1000 < a2
    · have ht : decide (a1 < 0) = true ∨ (decide (a1 < 0) = false ∧ decide (1099511627776 < a1) = true) ∨ (decide (a1 < 0) = false ∧ decide (1099511627776 < a1) = false ∧ decide (a2 < 0) = true) ∨ (decide (a1 < 0) = false ∧ decide (1099511627776 < a1) = false ∧ decide (a2 < 0) = false ∧ decide (1000 < a2) = true) := by
        simp only [decide_eq_true_eq, decide_eq_false_iff_not]
        omega
      clear hout
      rcases ht with t1 | ⟨t1, t2⟩ | ⟨t1, t2, t3⟩ | ⟨t1, t2, t3, t4⟩
      all_goals
        go_wp2_with fail
        refine (alive_any _).mono ?_
        rintro e1 w' ⟨rfl, rfl⟩
        go_wp2
        go_ret
        exact ⟨rfl, Grown.refl _⟩
    · obtain ⟨R, P, r1, r2, hP⟩ := whole_rate' a1 a2 (by omega) (by omega) (by omega) (by omega)
      have R1 := Lib.hid r1
      have R2 := Lib.hid r2
      have t1 : decide (a1 < 0) = false := by simp; omega
      have t2 : decide (1099511627776 < a1) = false := by simp; omega
      have t3 : decide (a2 < 0) = false := by simp; omega
      have t4 : decide (1000 < a2) = false := by simp; omega
      clear r1 r2 hout
      go_wp2_with fail
      refine (R1.out _).mono ?_
      rintro e1 w' ⟨rfl, rfl⟩
      go_wp2_with fail
      refine (R2.out _).mono ?_
      rintro e1 w' ⟨rfl, rfl⟩
      go_wp2_with fail
      refine (alive_any _).mono ?_
      rintro e1 w' ⟨rfl, rfl⟩
      go_wp2
      go_ret
      exact ⟨rfl, Grown.refl _⟩

/-! ### THE ROW's STEP: WRITTEN OUT: LEAVE IT -/
set_option maxRecDepth 100000 in
theorem lifted (os : Os) (started : os.Started) (H : Type) (enc : TypeId × Value → H) :
    ReturnsInHanded {} Try.checked os 8 .any (Rows.gaugeNeedsSpec.pre6 enc Try.prog Try.f8 Rows.gaugeNeedsRow.domain false) (Rows.gaugeNeedsSpec.post enc Try.prog Try.f8 false true false false) := by
  refine returnsInHanded_of_change (C := Try.checked) own started (by kernel_rfl) Try.func8
    (ChangeSpec.witness6 (enc := enc) (C := Try.checked) false ⟨#[], #[.int .u64 0, .int .i64 0, .int .i64 0], []⟩ 8 (by kernel_rfl) (by kernel_rfl) (by kernel_rfl) (by kernel_rfl)) ?_
  intro W base args ds gs before hval0 hW hcnd _
  have hval : ∀ (j : Nat) t v, Try.f8.params[j]? = some t → args[j]? = some v → Value.okWide Try.prog W .any base t v := hval0
  have hW' := hW
  obtain ⟨p, q, hA0, hV, rfl, hfz, hnd⟩ := hW
  have hA : DataW.TrodAll enc Try.prog W 0 (fun _ => true) true Try.f8.params.toList args.toList ds p := hA0
  rw [Try.params8] at hA hval
  obtain ⟨v0, vs0, d0, ds0, p0, q0, hargs, rfl, rfl, h0, r0⟩ := trodAll_cons hA
  obtain ⟨v1, vs1, d1, ds1, p1, q1, rfl, rfl, rfl, h1, r1⟩ := trodAll_cons r0
  obtain ⟨v2, vs2, d2, ds2, p2, q2, rfl, rfl, rfl, h2, r2⟩ := trodAll_cons r1
  obtain ⟨rfl, rfl, rfl⟩ := trodAll_nil r2
  obtain rfl : args = #[v0, v1, v2] := by cases args; simp_all
  obtain ⟨rfl, rfl⟩ := trodVars_none hV
  obtain ⟨a0, rfl, rfl, rfl, w0⟩ := open_int Try.underlying22 (hval 0 22 v0 rfl rfl) h0
  obtain ⟨a1, rfl, rfl, rfl, w1⟩ := open_int Try.underlying2 (hval 1 2 v1 rfl rfl) h1
  obtain ⟨a2, rfl, rfl, rfl, w2⟩ := open_int Try.underlying3 (hval 2 3 v2 rfl rfl) h2
  clear hA0 hval0
  simp only [List.append_nil] at hW'
  refine (walk a0 a1 a2 w0 w1 w2 W).mono fun e W' ⟨he, hg⟩ => ?_
  subst he
  exact ⟨_, rfl, post_of_same (pa := []) (pv := []) hW' (fun _ _ _ => (trodAll_cons_mk (shut_bool Try.underlying4 _) trodAll_mk0)) (fun sp _ => (trodAll_cons_mk (shut_int Try.underlying22 w0) (trodAll_cons_mk (shut_int Try.underlying2 w1) (trodAll_cons_mk (shut_int Try.underlying3 w2) trodAll_mk0)))) (fun _ _ => rfl) rfl
    (hg.frame _) hg.2.1 (ok_one (by kernel_rfl) rfl (okWide_bool_mk Try.underlying4 _))⟩

theorem over : Rows.gaugeNeedsRow.holds Try.pinned (OpenSpec.ofChange Rows.gaugeNeedsSpec) :=
  OpenClaim.holds_of_wide 8 Try.f8 rfl rfl rfl rfl rfl rfl rfl ⟨rfl, rfl, rfl, rfl, rfl⟩ rfl rfl rfl rfl rfl (by kernel_rfl) Try.func8 (by kernel_rfl)
    (of_decide_eq_true (by kernel_rfl)) (by unfold Func.isWrapper; first | (rw [if_pos (by decide +kernel)]; kernel_rfl) | (rw [if_neg (by decide +kernel)]; exact ⟨rfl, rfl⟩))
    (fun os started H enc _ => lifted os started H enc)

/-- ████ THE STATEMENT ████ -/
theorem proved : Rows.GaugeNeedsSaid :=
  over
#print axioms proved
end Go.Proofs.Ytleajpcoklmgkaa.gaugeNeeds
