/- GaugeRatios: the floor of a ratio of any two numbers, of amounts up to 2^20, is theirs, rounded down; by 0 it is infinite, with the sign of the first one, or NaN; 0 by one below 0 has a sign. No condition. -/
import Derived.Test.YtleajpcoklmgkaaRows
import Derived.Test.YtleajpcoklmgkaaGaugeRatio
import Derived.WalkKit
import Derived.ProofKit
import Derived.OpenShut
import Derived.ShutString
namespace Go.Proofs.Ytleajpcoklmgkaa.gaugeRatios
open Go.ChangeShapes Go.WideShapes Go.ChangeAt Go.RowKit
open Go.ChangeMaps (open_string shut_string)
set_option linter.unusedVariables false      -- a walk need not use every 'w<i>' (that an integer argument fits its kind)

theorem own : ownKnob Try.prog.godebug = none := by kernel_rfl

theorem gen (a b : Int) (R : Nat) (v q : Int) (w : World) (ha : -1048576 ≤ a) (ha' : a ≤ 1048576) (hb : -1048576 ≤ b) (hb' : b ≤ 1048576) (ha0 : a ≠ 0) (hb0 : b ≠ 0)
    (hr : ∀ w, Calls Try.prog 23 #[.int .i64 a, .int .i64 b] w fun e w' => e = .returned (.float .f64 R) ∧ w = w')
    (hf : ∀ w, Calls Try.prog 19 #[.float .f64 R] w fun e w' => e = .returned (.tuple #[.int .i64 v, .int .i64 0]) ∧ w = w')
    (hq : a.tdiv b = q) (hq1 : -1048576 ≤ q) (hq2 : q ≤ 1048576)
    (hc : ((a.tmod b != 0) = false ∧ v = q) ∨ (((a.tmod b != 0) = true) ∧ ((decide (a < 0) = true ∧ decide (b < 0) = true ∧ v = q) ∨ (decide (a < 0) = false ∧ decide (b < 0) = false ∧ v = q) ∨ (decide (a < 0) = true ∧ decide (b < 0) = false ∧ v = q - 1) ∨ (decide (a < 0) = false ∧ decide (b < 0) = true ∧ v = q - 1)))) :
    Calls Try.prog 7 #[.int .i64 a, .int .i64 b] w fun e w' => e = .returned (.bool true) ∧ Grown w w' := by
  have t1 : decide (1048576 < a) = false := by simp; omega
  have t2 : decide (a < -1048576) = false := by simp; omega
  have t3 : decide (1048576 < b) = false := by simp; omega
  have t4 : decide (b < -1048576) = false := by simp; omega
  have t5 : (b == 0) = false := by simpa using hb0
  have t6 : (a != 0) = true := by simpa using ha0
  have hw : wrap64 q = q := wrap64_of q (by omega) (by omega)
  have HR := Lib.hid hr
  have HF := Lib.hid hf
  clear hr hf
  rcases hc with ⟨m, hv⟩ | ⟨m, ⟨sa, sb, hv⟩ | ⟨sa, sb, hv⟩ | ⟨sa, sb, hv⟩ | ⟨sa, sb, hv⟩⟩
  all_goals
    subst hv
    go_enter Try.func7, Try.ntmps7
    go_wp2_with fail
    refine (HR.out _).mono ?_
    rintro e w' ⟨rfl, rfl⟩
    go_wp2_with fail
    refine (HF.out _).mono ?_
    rintro e w' ⟨rfl, rfl⟩
    go_wp2_with fail
    refine (alive_any _).mono ?_
    rintro e w' ⟨rfl, rfl⟩
    go_wp2
    go_ret
    exact ⟨rfl, Grown.refl _⟩

theorem nan_law (w : World) : Calls Try.prog 7 #[.int .i64 0, .int .i64 0] w fun e w' => e = .returned (.bool true) ∧ Grown w w' := by
  have hd : Ieee.double.div (floatOfInt .f64 0) (floatOfInt .f64 0) = none := by
    have e := of_pos 0
    rw [show ((0 : Nat) : Int) = 0 from rfl] at e
    rw [e]
    exact Gm.div_zero_zero false false
  have HR := Lib.hid (fun w => ratio_nan 0 0 w hd)
  clear hd
  obtain ⟨hn, hk⟩ := nanOf_nan w (floatOfInt .f64 0) (floatOfInt .f64 0)
  have a1 : (Gm.kind (nanOf w (floatOfInt .f64 0) (floatOfInt .f64 0)) == 0) = true := by simp; omega
  clear hk
  go_enter Try.func7, Try.ntmps7
  go_wp2_with fail
  refine (HR.out _).mono ?_
  rintro e w' ⟨rfl, rfl⟩
  go_wp2_with fail
  refine (alive_any _).mono ?_
  rintro e w' ⟨rfl, rfl⟩
  go_wp2_with fail
  refine (kind_any _ _ hn).mono ?_
  rintro e w' ⟨rfl, rfl⟩
  go_wp2
  go_ret
  exact ⟨rfl, Grown.drew (Grown.refl _)⟩

theorem inf_law (a : Int) (R : Nat) (w : World) (ha : -1048576 ≤ a) (ha' : a ≤ 1048576) (ha0 : a ≠ 0) (hR : R < 18446744073709551616) (hk : Gm.kind R = 1) (s : Bool) (hs : decide (a < 0) = s) (hc : decide (Gm.compare R 0 < 0) = s)
    (hr : ∀ w, Calls Try.prog 23 #[.int .i64 a, .int .i64 0] w fun e w' => e = .returned (.float .f64 R) ∧ w = w') :
    Calls Try.prog 7 #[.int .i64 a, .int .i64 0] w fun e w' => e = .returned (.bool true) ∧ Grown w w' := by
  have t1 : decide (1048576 < a) = false := by simp; omega
  have t2 : decide (a < -1048576) = false := by simp; omega
  have t6 : (a == 0) = false := by simpa using ha0
  have a1 : (Gm.kind R == 1) = true := by simp; omega
  have HR := Lib.hid hr
  clear hr hk
  cases s
  all_goals
    go_enter Try.func7, Try.ntmps7
    go_wp2_with fail
    refine (HR.out _).mono ?_
    rintro e w' ⟨rfl, rfl⟩
    go_wp2_with fail
    refine (alive_any _).mono ?_
    rintro e w' ⟨rfl, rfl⟩
    go_wp2_with fail
    refine (kind_any _ _ hR).mono ?_
    rintro e w' ⟨rfl, rfl⟩
    go_wp2_with fail
    refine (of_lit _ 0 rfl _).mono ?_
    rintro e w' ⟨rfl, rfl⟩
    go_wp2_with fail
    refine (compare_any _ _ _ hR (by omega)).mono ?_
    rintro e w' ⟨rfl, rfl⟩
    go_wp2
    go_ret
    exact ⟨rfl, Grown.refl _⟩

theorem zero_law (b : Int) (R : Nat) (w : World) (hb : -1048576 ≤ b) (hb' : b ≤ 1048576) (hb0 : b ≠ 0) (hR : R < 18446744073709551616) (s : Bool) (hs : decide (b < 0) = s) (hc : decide (Gm.compare R 0 < 0) = s)
    (hr : ∀ w, Calls Try.prog 23 #[.int .i64 0, .int .i64 b] w fun e w' => e = .returned (.float .f64 R) ∧ w = w')
    (hf : ∀ w, Calls Try.prog 19 #[.float .f64 R] w fun e w' => e = .returned (.tuple #[.int .i64 0, .int .i64 0]) ∧ w = w') :
    Calls Try.prog 7 #[.int .i64 0, .int .i64 b] w fun e w' => e = .returned (.bool true) ∧ Grown w w' := by
  have t3 : decide (1048576 < b) = false := by simp; omega
  have t4 : decide (b < -1048576) = false := by simp; omega
  have t5 : (b == 0) = false := by simpa using hb0
  have hq : Int.tdiv 0 b = 0 := Int.zero_tdiv b
  have hm : Int.tmod 0 b = 0 := Int.zero_tmod b
  have HR := Lib.hid hr
  have HF := Lib.hid hf
  clear hr hf
  cases s
  all_goals
    go_enter Try.func7, Try.ntmps7
    go_wp2_with fail
    refine (HR.out _).mono ?_
    rintro e w' ⟨rfl, rfl⟩
    go_wp2_with fail
    refine (HF.out _).mono ?_
    rintro e w' ⟨rfl, rfl⟩
    go_wp2_with fail
    refine (of_lit _ 0 rfl _).mono ?_
    rintro e w' ⟨rfl, rfl⟩
    go_wp2_with fail
    refine (compare_any _ _ _ hR (by omega)).mono ?_
    rintro e w' ⟨rfl, rfl⟩
    go_wp2_with fail
    refine (alive_any _).mono ?_
    rintro e w' ⟨rfl, rfl⟩
    go_wp2
    go_ret
    exact ⟨rfl, Grown.refl _⟩

theorem out_law (a b : Int) (w : World) (h : decide (1048576 < a) = true ∨ (decide (1048576 < a) = false ∧ decide (a < -1048576) = true) ∨ (decide (1048576 < a) = false ∧ decide (a < -1048576) = false ∧ decide (1048576 < b) = true) ∨ (decide (1048576 < a) = false ∧ decide (a < -1048576) = false ∧ decide (1048576 < b) = false ∧ decide (b < -1048576) = true)) :
    Calls Try.prog 7 #[.int .i64 a, .int .i64 b] w fun e w' => e = .returned (.bool true) ∧ Grown w w' := by
  rcases h with t1 | ⟨t1, t2⟩ | ⟨t1, t2, t3⟩ | ⟨t1, t2, t3, t4⟩
  all_goals
    go_enter Try.func7, Try.ntmps7
    go_wp2_with fail
    refine (alive_any _).mono ?_
    rintro e w' ⟨rfl, rfl⟩
    go_wp2
    go_ret
    exact ⟨rfl, Grown.refl _⟩

theorem floor_null (b : Nat) (h : Gm.mag b = 0) : Gm.floorV b = 0 := by
  unfold Gm.floorV Gm.floorMag
  rw [h, Nat.zero_mul, Nat.zero_div, Nat.zero_mod]
  simp
theorem tmod_nat (A B : Nat) : Int.tmod (A : Int) (B : Int) = ((A % B : Nat) : Int) := by simp [Int.tmod]

theorem four (a b : Int) (w : World) (A B : Nat) (hA0 : A ≠ 0) (hA : A ≤ 1048576) (hB0 : B ≠ 0) (hB : B ≤ 1048576) (s t : Bool)
    (ea : a = if s then -(A : Int) else (A : Int)) (eb : b = if t then -(B : Int) else (B : Int)) :
    Calls Try.prog 7 #[.int .i64 a, .int .i64 b] w fun e w' => e = .returned (.bool true) ∧ Grown w w' := by
  obtain ⟨R, hR⟩ : ∃ R, R = Ieee.double.nearest (s ^^ t) (Gm.quo (Gm.keep A) (Gm.keep B)) ((A.log2 : Int) - B.log2 - 55) := ⟨_, rfl⟩
  obtain ⟨r1, r2, r3, r4⟩ := Gm.ratio_floor (s ^^ t) A B hA0 hA hB0 hB R hR
  have hd := Gm.div_ofInt s t A B hA0 (by omega) hB0 (by omega)
  rw [← hR] at hd
  have fa : floatOfInt .f64 a = Gm.ofInt s A := by
    cases s
    · rw [ea]; exact of_pos A
    · rw [ea]; exact of_neg A hA0
  have fb : floatOfInt .f64 b = Gm.ofInt t B := by
    cases t
    · rw [eb]; exact of_pos B
    · rw [eb]; exact of_neg B hB0
  rw [← fa, ← fb] at hd
  have hql : A / B ≤ A := Nat.div_le_self A B
  have hml : A % B < B := Nat.mod_lt _ (by omega)
  obtain ⟨Q, hQ⟩ : ∃ Q, Q = A / B := ⟨_, rfl⟩
  obtain ⟨M, hM⟩ : ∃ M, M = A % B := ⟨_, rfl⟩
  have hv : Gm.floorV R = if (s ^^ t) then -((Q + (M != 0).toNat : Nat) : Int) else (Q : Int) := by
    unfold Gm.floorV
    rw [r3, r4, ← hQ, ← hM]
    cases (s ^^ t) <;> simp
  have hq : a.tdiv b = if (s ^^ t) then -(Q : Int) else (Q : Int) := by
    rw [ea, eb, hQ]
    cases s <;> cases t <;> simp [Int.neg_tdiv, Int.tdiv_neg]
  have hm : (a.tmod b != 0) = (M != 0) := by
    rw [ea, eb, hM]
    have e : ((A % B : Nat) : Int) ≠ 0 ↔ A % B ≠ 0 := by omega
    cases s <;> cases t <;> (rw [Bool.eq_iff_iff, bne_iff_ne, bne_iff_ne]; simp only [Bool.false_eq_true, if_false, if_true, Int.neg_tmod, Int.tmod_neg, tmod_nat]; omega)
  have hsa : decide (a < 0) = s := by cases s <;> (rw [ea]; simp; try omega)
  have hsb : decide (b < 0) = t := by cases t <;> (rw [eb]; simp; try omega)
  rw [← hQ] at hql
  refine gen a b R (Gm.floorV R) (a.tdiv b) w (by rw [ea]; split <;> omega) (by rw [ea]; split <;> omega) (by rw [eb]; split <;> omega) (by rw [eb]; split <;> omega) (by rw [ea]; split <;> omega) (by rw [eb]; split <;> omega) (fun w => ratio_any a b R w hd) (fun w => floor_ok R w r1 (by omega)) rfl (by rw [hq]; split <;> omega) (by rw [hq]; split <;> omega) ?_
  rw [hm, hv, hq, hsa, hsb]
  have t1 : true.toNat = 1 := rfl
  have t0 : false.toNat = 0 := rfl
  cases hb : (M != 0)
  · left
    refine ⟨rfl, ?_⟩
    cases s <;> cases t <;> simp
  · right
    refine ⟨rfl, ?_⟩
    cases s <;> cases t <;> simp <;> omega
/-! ### STEP 1: THE WALK: the Go text returns true. 'Grown w w'': the world has at most new blocks (Derived/RowKit3.lean). Part the cases AHEAD of 'go_enter' where a test parts the walk; take each callee by a contract of your own. -/
theorem walk (a0 : Int) (a1 : Int) (w0 : (Lit.int .i64 a0).wf = true) (w1 : (Lit.int .i64 a1).wf = true) (w : World) :
    Calls Try.prog 7 #[.int .i64 a0, .int .i64 a1] w fun e w' => e = .returned (.bool true) ∧ Grown w w' := by
  have b0 := bounds_i64 w0
  have b1 := bounds_i64 w1
  clear w0 w1
  by_cases hout : 1048576 < a0 ∨ a0 < -1048576 ∨ 1048576 < a1 ∨ a1 < -1048576
  · refine out_law a0 a1 w ?_
    simp only [decide_eq_true_eq, decide_eq_false_iff_not]
    omega
  · by_cases h1 : a1 = 0
    · subst h1
      by_cases h0 : a0 = 0
      · subst h0
        exact nan_law w
      · by_cases hs : a0 < 0
        · obtain ⟨A, hA⟩ : ∃ A : Nat, a0 = -(A : Int) := ⟨a0.natAbs, by omega⟩
          have hd := Gm.div_by_zero true false A (by omega) (by omega)
          rw [← of_neg A (by omega), ← of_pos 0, ← hA] at hd
          exact inf_law a0 18442240474082181120 w (by omega) (by omega) h0 (by omega) (by decide) true (by simpa using hs) (by decide) (fun w => ratio_any a0 0 _ w hd)
        · obtain ⟨A, hA⟩ : ∃ A : Nat, a0 = (A : Int) := ⟨a0.natAbs, by omega⟩
          have hd := Gm.div_by_zero false false A (by omega) (by omega)
          rw [← of_pos A, ← of_pos 0, ← hA] at hd
          exact inf_law a0 9218868437227405312 w (by omega) (by omega) h0 (by omega) (by decide) false (by simpa using hs) (by decide) (fun w => ratio_any a0 0 _ w hd)
    · by_cases h0 : a0 = 0
      · subst h0
        by_cases hs : a1 < 0
        · obtain ⟨B, hB⟩ : ∃ B : Nat, a1 = -(B : Int) := ⟨a1.natAbs, by omega⟩
          have hd := Gm.div_zero_num false true B (by omega) (by omega)
          rw [← of_neg B (by omega), ← of_pos 0, ← hB] at hd
          refine zero_law a1 9223372036854775808 w (by omega) (by omega) h1 (by omega) true (by simpa using hs) (by decide) (fun w => ratio_any 0 a1 _ w hd) (fun w => ?_)
          have := floor_ok 9223372036854775808 w (by omega) (by decide)
          rw [floor_null 9223372036854775808 (by decide)] at this
          exact this
        · obtain ⟨B, hB⟩ : ∃ B : Nat, a1 = (B : Int) := ⟨a1.natAbs, by omega⟩
          have hd := Gm.div_zero_num false false B (by omega) (by omega)
          rw [← of_pos B, ← of_pos 0, ← hB] at hd
          refine zero_law a1 0 w (by omega) (by omega) h1 (by omega) false (by simpa using hs) (by decide) (fun w => ratio_any 0 a1 _ w hd) (fun w => ?_)
          have := floor_ok 0 w (by omega) (by decide)
          rw [floor_null 0 (by decide)] at this
          exact this
      · refine four a0 a1 w a0.natAbs a1.natAbs (by omega) (by omega) (by omega) (by omega) (decide (a0 < 0)) (decide (a1 < 0)) ?_ ?_
        · by_cases hs : a0 < 0 <;> simp [hs] <;> omega
        · by_cases hs : a1 < 0 <;> simp [hs] <;> omega

/-! ### THE ROW's STEP: WRITTEN OUT: LEAVE IT -/
set_option maxRecDepth 100000 in
theorem lifted (os : Os) (started : os.Started) (H : Type) (enc : TypeId × Value → H) :
    ReturnsInHanded {} Try.checked os 7 .any (Rows.gaugeRatiosSpec.pre6 enc Try.prog Try.f7 Rows.gaugeRatiosRow.domain false) (Rows.gaugeRatiosSpec.post enc Try.prog Try.f7 false true false false) := by
  refine returnsInHanded_of_change (C := Try.checked) own started (by kernel_rfl) Try.func7
    (ChangeSpec.witness6 (enc := enc) (C := Try.checked) false ⟨#[], #[.int .i64 0, .int .i64 0], []⟩ 8 (by kernel_rfl) (by kernel_rfl) (by kernel_rfl) (by kernel_rfl)) ?_
  intro W base args ds gs before hval0 hW hcnd _
  have hval : ∀ (j : Nat) t v, Try.f7.params[j]? = some t → args[j]? = some v → Value.okWide Try.prog W .any base t v := hval0
  have hW' := hW
  obtain ⟨p, q, hA0, hV, rfl, hfz, hnd⟩ := hW
  have hA : DataW.TrodAll enc Try.prog W 0 (fun _ => true) true Try.f7.params.toList args.toList ds p := hA0
  rw [Try.params7] at hA hval
  obtain ⟨v0, vs0, d0, ds0, p0, q0, hargs, rfl, rfl, h0, r0⟩ := trodAll_cons hA
  obtain ⟨v1, vs1, d1, ds1, p1, q1, rfl, rfl, rfl, h1, r1⟩ := trodAll_cons r0
  obtain ⟨rfl, rfl, rfl⟩ := trodAll_nil r1
  obtain rfl : args = #[v0, v1] := by cases args; simp_all
  obtain ⟨rfl, rfl⟩ := trodVars_none hV
  obtain ⟨a0, rfl, rfl, rfl, w0⟩ := open_int Try.underlying2 (hval 0 2 v0 rfl rfl) h0
  obtain ⟨a1, rfl, rfl, rfl, w1⟩ := open_int Try.underlying2 (hval 1 2 v1 rfl rfl) h1
  clear hA0 hval0
  simp only [List.append_nil] at hW'
  refine (walk a0 a1 w0 w1 W).mono fun e W' ⟨he, hg⟩ => ?_
  subst he
  exact ⟨_, rfl, post_of_same (pa := []) (pv := []) hW' (fun _ _ _ => (trodAll_cons_mk (shut_bool Try.underlying4 _) trodAll_mk0)) (fun sp _ => (trodAll_cons_mk (shut_int Try.underlying2 w0) (trodAll_cons_mk (shut_int Try.underlying2 w1) trodAll_mk0))) (fun _ _ => rfl) rfl
    (hg.frame _) hg.2.1 (ok_one (by kernel_rfl) rfl (okWide_bool_mk Try.underlying4 _))⟩

theorem over : Rows.gaugeRatiosRow.holds Try.pinned (OpenSpec.ofChange Rows.gaugeRatiosSpec) :=
  OpenClaim.holds_of_wide 7 Try.f7 rfl rfl rfl rfl rfl rfl rfl ⟨rfl, rfl, rfl, rfl, rfl⟩ rfl rfl rfl rfl rfl (by kernel_rfl) Try.func7 (by kernel_rfl)
    (of_decide_eq_true (by kernel_rfl)) (by unfold Func.isWrapper; first | (rw [if_pos (by decide +kernel)]; kernel_rfl) | (rw [if_neg (by decide +kernel)]; exact ⟨rfl, rfl⟩))
    (fun os started H enc _ => lifted os started H enc)

/-- ████ THE STATEMENT ████ -/
theorem proved : Rows.GaugeRatiosSaid :=
  over
#print axioms proved
end Go.Proofs.Ytleajpcoklmgkaa.gaugeRatios
