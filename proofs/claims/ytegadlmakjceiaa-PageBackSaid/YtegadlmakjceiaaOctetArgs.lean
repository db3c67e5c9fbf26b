/- What a statement's slices of integers give the walks. -/
import Derived.Test.YtegadlmakjceiaaOctetJoin
import Derived.OpenShut
namespace Go.Proofs.Ytegadlmakjceiaa
open Go.RowKit Go.ChangeShapes Go.WideShapes Go.ChangeAt
set_option linter.unusedVariables false

theorem view_sizes {w : World} {a : Option Addr} {len cap : Nat} {zs : List Int}
    (h : (a = none ∧ len = 0 ∧ cap = 0 ∧ zs = []) ∨ ∃ x, a = some x ∧ len ≤ cap ∧ cap ≤ maxLen ∧ zs.length = cap ∧ (∀ i, i < zs.length → w.cell? (x.add i) = some (.int .i64 (zs.getD i 0))) ∧ ∀ n ∈ zs, (Lit.int .i64 n).wf = true) :
    ∃ ys : List Int, ys.length = len ∧ Row w w.heap.size a len (szs ys) ∧ len ≤ 9223372036854775807 := by
  rcases h with ⟨rfl, rfl, rfl, rfl⟩ | ⟨x, rfl, hlc, hm, hzl, hcell, hwf⟩
  · exact ⟨[], rfl, Row.empty _ _ _ _, by omega⟩
  · refine ⟨zs.take len, by rw [List.length_take]; omega, fun hn => ?_, by unfold maxLen at hm; omega⟩
    obtain ⟨b, off, rfl, hc⟩ := ints_at hcell (by omega)
    refine ⟨b, off, rfl, lt_of_cell (hc 0 (by omega)), fun i hi => ?_⟩
    rw [hc i (by omega)]
    unfold szs
    simp [hi]
theorem view_nums {w : World} {a : Option Addr} {len cap : Nat} {zs : List Int}
    (h : (a = none ∧ len = 0 ∧ cap = 0 ∧ zs = []) ∨ ∃ x, a = some x ∧ len ≤ cap ∧ cap ≤ maxLen ∧ zs.length = cap ∧ (∀ i, i < zs.length → w.cell? (x.add i) = some (.int .u64 (zs.getD i 0))) ∧ ∀ n ∈ zs, (Lit.int .u64 n).wf = true) :
    ∃ ls : List Nat, ls.length = len ∧ Row w w.heap.size a len (nbs ls) ∧ (∀ i, ls.getD i 0 < 18446744073709551616) ∧ len ≤ 9223372036854775807 := by
  rcases h with ⟨rfl, rfl, rfl, rfl⟩ | ⟨x, rfl, hlc, hm, hzl, hcell, hwf⟩
  · exact ⟨[], rfl, Row.empty _ _ _ _, by simp, by omega⟩
  · have hr := range_u64 hwf
    have hget : ∀ i, i < len → ((((zs.take len).map Int.toNat).getD i 0 : Nat) : Int) = zs.getD i 0 := fun i hi => by
      have := hr i
      have hi' : i < zs.length := by omega
      simp [List.getD, hi, List.getElem?_eq_getElem hi'] at this ⊢
      omega
    refine ⟨(zs.take len).map Int.toNat, by rw [List.length_map, List.length_take]; omega, fun hn => ?_, fun i => ?_, by unfold maxLen at hm; omega⟩
    · obtain ⟨b, off, rfl, hc⟩ := ints_at hcell (by omega)
      refine ⟨b, off, rfl, lt_of_cell (hc 0 (by omega)), fun i hi => ?_⟩
      rw [hc i (by omega)]
      unfold nbs
      rw [hget i hi]
    · by_cases hi : i < len
      · have h1 := hget i hi
        have h2 := hr i
        rw [← List.getD_eq_getElem?_getD] at h2
        omega
      · rw [List.getD_eq_getElem?_getD, List.getElem?_eq_none (by rw [List.length_map, List.length_take]; omega)]
        simp
theorem u64_wf {n : Int} (h : (Lit.int .u64 n).wf = true) : ∃ m : Nat, n = (m : Int) ∧ m < 18446744073709551616 := by
  have h' := range_u64 (zs := [n]) (by simpa using h) 0
  simp at h'
  exact ⟨n.toNat, by omega, by omega⟩
end Go.Proofs.Ytegadlmakjceiaa
