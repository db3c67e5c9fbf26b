/- GaugeOrder: of any three numbers, told by their bits, Compare is an order, and two that compare alike have the same bits. No condition. -/
import Derived.Test.YtleajpcoklmgkaaRows
import Derived.Test.YtleajpcoklmgkaaGaugeAlive
import Derived.WalkKit
import Derived.ProofKit
import Derived.OpenShut
import Derived.ShutString
namespace Go.Proofs.Ytleajpcoklmgkaa.gaugeOrder
open Go.ChangeShapes Go.WideShapes Go.ChangeAt Go.RowKit
open Go.ChangeMaps (open_string shut_string)
set_option linter.unusedVariables false      -- a walk need not use every 'w<i>' (that an integer argument fits its kind)

theorem own : ownKnob Try.prog.godebug = none := by kernel_rfl

theorem nat_of {a : Int} (h : (Lit.int .u64 a).wf = true) : ∃ n : Nat, n < 18446744073709551616 ∧ a = (n : Int) := by
  have := bounds_u64 h
  exact ⟨a.toNat, by omega, by omega⟩
theorem three (x y : Nat) : (Gm.compare x y = 1 ∧ Gm.compare y x = -1 ∧ ((Gm.bits x : Int) == (Gm.bits y : Int)) = false) ∨ (Gm.compare x y = 0 ∧ Gm.compare y x = 0 ∧ ((Gm.bits x : Int) == (Gm.bits y : Int)) = true) ∨ (Gm.compare x y = -1 ∧ Gm.compare y x = 1 ∧ ((Gm.bits x : Int) == (Gm.bits y : Int)) = false) := by
  have hb := Gm.cmp_bd (Gm.place x) (Gm.place y)
  have hn := Gm.cmp_neg (Gm.place x) (Gm.place y)
  have hz := Gm.cmp_zero (Gm.place x) (Gm.place y)
  have hi := Gm.place_inj x y
  have hpl : Gm.bits x = Gm.bits y → Gm.place x = Gm.place y := fun h => by unfold Gm.place; rw [h]
  unfold Gm.compare
  simp only [beq_eq_false_iff_ne, beq_iff_eq, ne_eq]
  omega
theorem tran (x y z : Nat) (h : Gm.compare x y ≤ 0) : (decide (0 < Gm.compare y z) = true) ∨ (decide (0 < Gm.compare y z) = false ∧ decide (Gm.compare x z ≤ 0) = true) := by
  have ht := Gm.cmp_trans (Gm.place x) (Gm.place y) (Gm.place z)
  unfold Gm.compare at *
  simp only [decide_eq_true_eq, decide_eq_false_iff_not]
  omega
/-! ### STEP 1: THE WALK: the Go text returns true. 'Grown w w'': the world has at most new blocks (Derived/RowKit3.lean). Part the cases AHEAD of 'go_enter' where a test parts the walk; take each callee by a contract of your own. -/
theorem walk (a0 : Int) (a1 : Int) (a2 : Int) (w0 : (Lit.int .u64 a0).wf = true) (w1 : (Lit.int .u64 a1).wf = true) (w2 : (Lit.int .u64 a2).wf = true) (w : World) :
    Calls Try.prog 6 #[.int .u64 a0, .int .u64 a1, .int .u64 a2] w fun e w' => e = .returned (.bool true) ∧ Grown w w' := by
  obtain ⟨x, hx, rfl⟩ := nat_of w0
  obtain ⟨y, hy, rfl⟩ := nat_of w1
  obtain ⟨z, hz, rfl⟩ := nat_of w2
  clear w0 w1 w2
  have key : (Gm.compare x y = 1 ∧ Gm.compare y x = -1 ∧ ((Gm.bits x : Int) == (Gm.bits y : Int)) = false) ∨ (Gm.compare x y = 0 ∧ Gm.compare y x = 0 ∧ ((Gm.bits x : Int) == (Gm.bits y : Int)) = true ∧ ((decide (0 < Gm.compare y z) = true) ∨ (decide (0 < Gm.compare y z) = false ∧ decide (Gm.compare x z ≤ 0) = true))) ∨ (Gm.compare x y = -1 ∧ Gm.compare y x = 1 ∧ ((Gm.bits x : Int) == (Gm.bits y : Int)) = false ∧ ((decide (0 < Gm.compare y z) = true) ∨ (decide (0 < Gm.compare y z) = false ∧ decide (Gm.compare x z ≤ 0) = true))) := by
    rcases three x y with ⟨a, b, c⟩ | ⟨a, b, c⟩ | ⟨a, b, c⟩
    · exact .inl ⟨a, b, c⟩
    · exact .inr (.inl ⟨a, b, c, tran x y z (by omega)⟩)
    · exact .inr (.inr ⟨a, b, c, tran x y z (by omega)⟩)
  rcases key with ⟨a, b, c⟩ | ⟨a, b, c, d | ⟨d, f⟩⟩ | ⟨a, b, c, d | ⟨d, f⟩⟩
  all_goals
    go_enter Try.func6, Try.ntmps6
    go_wp2_with fail
    refine (of_any _ _).mono ?_
    rintro e w' ⟨rfl, rfl⟩
    go_wp2_with fail
    refine (of_any _ _).mono ?_
    rintro e w' ⟨rfl, rfl⟩
    go_wp2_with fail
    refine (of_any _ _).mono ?_
    rintro e w' ⟨rfl, rfl⟩
    go_wp2_with fail
    refine (compare_any _ _ _ hx hy).mono ?_
    rintro e w' ⟨rfl, rfl⟩
    go_wp2_with fail
    refine (compare_any _ _ _ hy hz).mono ?_
    rintro e w' ⟨rfl, rfl⟩
    go_wp2_with fail
    refine (compare_any _ _ _ hx hz).mono ?_
    rintro e w' ⟨rfl, rfl⟩
    go_wp2_with fail
    refine (alive_any _).mono ?_
    rintro e w' ⟨rfl, rfl⟩
    go_wp2_with fail
    refine (compare_any _ _ _ hy hx).mono ?_
    rintro e w' ⟨rfl, rfl⟩
    go_wp2_with fail
    refine (bits_any _ _ hx).mono ?_
    rintro e w' ⟨rfl, rfl⟩
    go_wp2_with fail
    refine (bits_any _ _ hy).mono ?_
    rintro e w' ⟨rfl, rfl⟩
    go_wp2
    go_ret
    exact ⟨rfl, Grown.refl _⟩

/-! ### THE ROW's STEP: WRITTEN OUT: LEAVE IT -/
set_option maxRecDepth 100000 in
theorem lifted (os : Os) (started : os.Started) (H : Type) (enc : TypeId × Value → H) :
    ReturnsInHanded {} Try.checked os 6 .any (Rows.gaugeOrderSpec.pre6 enc Try.prog Try.f6 Rows.gaugeOrderRow.domain false) (Rows.gaugeOrderSpec.post enc Try.prog Try.f6 false true false false) := by
  refine returnsInHanded_of_change (C := Try.checked) own started (by kernel_rfl) Try.func6
    (ChangeSpec.witness6 (enc := enc) (C := Try.checked) false ⟨#[], #[.int .u64 0, .int .u64 0, .int .u64 0], []⟩ 8 (by kernel_rfl) (by kernel_rfl) (by kernel_rfl) (by kernel_rfl)) ?_
  intro W base args ds gs before hval0 hW hcnd _
  have hval : ∀ (j : Nat) t v, Try.f6.params[j]? = some t → args[j]? = some v → Value.okWide Try.prog W .any base t v := hval0
  have hW' := hW
  obtain ⟨p, q, hA0, hV, rfl, hfz, hnd⟩ := hW
  have hA : DataW.TrodAll enc Try.prog W 0 (fun _ => true) true Try.f6.params.toList args.toList ds p := hA0
  rw [Try.params6] at hA hval
  obtain ⟨v0, vs0, d0, ds0, p0, q0, hargs, rfl, rfl, h0, r0⟩ := trodAll_cons hA
  obtain ⟨v1, vs1, d1, ds1, p1, q1, rfl, rfl, rfl, h1, r1⟩ := trodAll_cons r0
  obtain ⟨v2, vs2, d2, ds2, p2, q2, rfl, rfl, rfl, h2, r2⟩ := trodAll_cons r1
  obtain ⟨rfl, rfl, rfl⟩ := trodAll_nil r2
  obtain rfl : args = #[v0, v1, v2] := by cases args; simp_all
  obtain ⟨rfl, rfl⟩ := trodVars_none hV
  obtain ⟨a0, rfl, rfl, rfl, w0⟩ := open_int Try.underlying22 (hval 0 22 v0 rfl rfl) h0
  obtain ⟨a1, rfl, rfl, rfl, w1⟩ := open_int Try.underlying22 (hval 1 22 v1 rfl rfl) h1
  obtain ⟨a2, rfl, rfl, rfl, w2⟩ := open_int Try.underlying22 (hval 2 22 v2 rfl rfl) h2
  clear hA0 hval0
  simp only [List.append_nil] at hW'
  refine (walk a0 a1 a2 w0 w1 w2 W).mono fun e W' ⟨he, hg⟩ => ?_
  subst he
  exact ⟨_, rfl, post_of_same (pa := []) (pv := []) hW' (fun _ _ _ => (trodAll_cons_mk (shut_bool Try.underlying4 _) trodAll_mk0)) (fun sp _ => (trodAll_cons_mk (shut_int Try.underlying22 w0) (trodAll_cons_mk (shut_int Try.underlying22 w1) (trodAll_cons_mk (shut_int Try.underlying22 w2) trodAll_mk0)))) (fun _ _ => rfl) rfl
    (hg.frame _) hg.2.1 (ok_one (by kernel_rfl) rfl (okWide_bool_mk Try.underlying4 _))⟩

theorem over : Rows.gaugeOrderRow.holds Try.pinned (OpenSpec.ofChange Rows.gaugeOrderSpec) :=
  OpenClaim.holds_of_wide 6 Try.f6 rfl rfl rfl rfl rfl rfl rfl ⟨rfl, rfl, rfl, rfl, rfl⟩ rfl rfl rfl rfl rfl (by kernel_rfl) Try.func6 (by kernel_rfl)
    (of_decide_eq_true (by kernel_rfl)) (by unfold Func.isWrapper; first | (rw [if_pos (by decide +kernel)]; kernel_rfl) | (rw [if_neg (by decide +kernel)]; exact ⟨rfl, rfl⟩))
    (fun os started H enc _ => lifted os started H enc)

/-- ████ THE STATEMENT ████ -/
theorem proved : Rows.GaugeOrderSaid :=
  over
#print axioms proved
end Go.Proofs.Ytleajpcoklmgkaa.gaugeOrder
