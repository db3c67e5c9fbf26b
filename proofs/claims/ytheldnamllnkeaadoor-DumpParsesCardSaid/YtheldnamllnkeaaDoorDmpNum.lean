/- Contracts of dump's small calls: need, number, stateWord, lineOf. -/
import Derived.Test.YtheldnamllnkeaaDoorDmpFmt
import Derived.Test.YtheldnamllnkeaaDoorDmpMath
import Derived.Outline
import Derived.Deep.QuietTactic
import Derived.BigQuiet
import Derived.IntWalk
namespace Go.Proofs.YtheldnamllnkeaaDoor
namespace Pd
open Go.RowKit
set_option maxRecDepth 100000
set_option linter.unusedVariables false

/-- How a call ends that meets no word of a dump. -/
def noE : Ending := .panicked [{ v := .iface 74 (.agg #[]), recovered := false }]
theorem need_yes (w : World) : Calls Tryd.prog 34 #[.bool true] w fun e w' => e = .returned (.tuple #[]) ∧ w = w' := by
  go_enter Tryd.func34, Tryd.ntmps34
  go_wp2
  go_end0
  exact ⟨rfl, rfl⟩
theorem need_no (w : World) : Calls Tryd.prog 34 #[.bool false] w fun e w' => e = noE ∧ w = w' := by
  unfold noE
  go_enter Tryd.func34, Tryd.ntmps34
  go_wp2
  exact ⟨rfl, rfl, rfl⟩
/-- A number's figures; -/
theorem number_ok (z : Int) (h : okN z = true) (w : World) (hv : Vs w) : Calls Tryd.prog 30 #[.int .i64 z] w fun e w' => e = .returned (.string (Om.B (fig z))) ∧ Below w.heap.size w w' := by
  rw [okN_iff] at h
  obtain ⟨n, rfl⟩ : ∃ n : Nat, z = n := ⟨z.toNat, by omega⟩
  have HV := Lib.hid hv
  have cw : IntKind.u64.wrap (n : Int) = (n : Int) := by rw [IntKind.wrap_u64]; omega
  have d1 : decide ((n : Int) ≤ 4294967295) = true := by simp; omega
  have d2 : decide ((0 : Int) ≤ (n : Int)) = true := by simp
  have NY := Lib.hid (fun w1 => need_yes w1)
  have hn : n ≤ 9223372036854775807 := by omega
  clear hv
  go_enter Tryd.func30, Tryd.ntmps30
  go_wp2_with fail
  refine (NY.out _).mono ?_
  rintro e w1 ⟨rfl, rfl⟩
  go_wp2_with fail
  refine (itoa_any n hn _ HV.out).mono ?_
  rintro e w1 ⟨rfl, hb⟩
  go_wp2
  go_ret
  exact ⟨rfl, hb⟩
/-- a number that no dump has. -/
theorem number_no (z : Int) (h : okN z = false) (hz : -9223372036854775808 ≤ z ∧ z ≤ 9223372036854775807) (w : World) : Calls Tryd.prog 30 #[.int .i64 z] w fun e w' => e = noE ∧ w = w' := by
  have h' : ¬ (0 ≤ z ∧ z ≤ 4294967295) := fun k => by rw [(okN_iff z).2 k] at h; cases h
  clear h
  have NO := Lib.hid (fun w1 => need_no w1)
  unfold noE at NO ⊢
  by_cases h0 : 0 ≤ z
  · obtain ⟨n, rfl⟩ : ∃ n : Nat, z = n := ⟨z.toNat, by omega⟩
    have cw : IntKind.u64.wrap (n : Int) = (n : Int) := by rw [IntKind.wrap_u64]; omega
    have d1 : decide ((n : Int) ≤ 4294967295) = false := by simp; omega
    have d2 : decide ((0 : Int) ≤ (n : Int)) = true := by simp
    go_enter Tryd.func30, Tryd.ntmps30
    go_wp2_with fail
    refine (NO.out _).mono ?_
    rintro e w1 ⟨rfl, rfl⟩
    go_wp2
    exact ⟨rfl, rfl, rfl⟩
  · have d2 : decide ((0 : Int) ≤ z) = false := by simp; omega
    go_enter Tryd.func30, Tryd.ntmps30
    go_wp2_with fail
    refine (NO.out _).mono ?_
    rintro e w1 ⟨rfl, rfl⟩
    go_wp2
    exact ⟨rfl, rfl, rfl⟩
theorem state_ok (z : Int) (h : z = 1 ∨ z = 2) (w : World) : Calls Tryd.prog 45 #[.int .i64 z] w fun e w' => e = .returned (.string (Om.B (wState z))) ∧ w = w' := by
  rcases h with rfl | rfl
  all_goals
    go_enter Tryd.func45, Tryd.ntmps45
    go_wp2
    go_ret
    exact ⟨rfl, rfl⟩
theorem state_no (z : Int) (h : ¬ (z = 1 ∨ z = 2)) (w : World) : Calls Tryd.prog 45 #[.int .i64 z] w fun e w' => e = noE ∧ w = w' := by
  have d1 : (z == 1) = false := by simp; omega
  have d2 : (z == 2) = false := by simp; omega
  unfold noE
  go_enter Tryd.func45, Tryd.ntmps45
  go_wp2
  exact ⟨rfl, rfl, rfl⟩
theorem lineof_any (bk c : Nat) (xs : List (List UInt8)) (w : World)
    (hcells : ∀ (j : Nat) x, xs[j]? = some x → w.cell? ⟨bk, 0 + j, none⟩ = some (.string (Om.B x))) (hbk : bk < w.heap.size) (hN : xs.length ≤ 1000) (hcap : xs.length ≤ c)
    (hlen : ∀ x ∈ xs, x.length ≤ 1000) :
    Calls Tryd.prog 29 #[.slice (some ⟨bk, 0, none⟩) xs.length c] w fun e w' => e = .returned (.string (Om.B (line xs))) ∧ Below w.heap.size w w' := by
  have hl : (Lib.join xs [32]).length ≤ 140737488355328 := by
    have := join_length_le [32] xs 1000 hlen
    have h2 : xs.length * (1000 + [(32 : UInt8)].length) ≤ 1000 * 1001 := Nat.mul_le_mul hN (Nat.le_refl _)
    omega
  have J := Lib.hid (join_any bk 0 c xs [32] w hcells hbk (by omega) hcap hl)
  obtain ⟨n, hn⟩ : ∃ n, n = xs.length := ⟨_, rfl⟩
  rw [← hn] at J ⊢
  clear hl hlen hN hcap hcells hn
  go_enter Tryd.func29, Tryd.ntmps29
  go_wp2_with fail
  refine J.out.mono ?_
  rintro e w1 ⟨rfl, hb⟩
  go_wp2
  go_ret
  exact ⟨rfl, hb⟩
end Pd
end Go.Proofs.YtheldnamllnkeaaDoor
