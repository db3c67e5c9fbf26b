/- Contracts of crc's step and remainders. -/
import Derived.Test.YtncbimgbjkdocaaCrcMath
import Derived.Test.YtncbimgbjkdocaaOctetPut
import Derived.Laws.BitsAllLaws
import Derived.Laws.Rows
import Derived.Outline
namespace Go.Proofs.Ytncbimgbjkdocaa
open Go.RowKit
set_option maxRecDepth 100000
set_option linter.unusedVariables false

theorem step_any (x : Nat) (w : World) (h : x < 4294967296) : Calls Try.prog 62 #[.int .u32 (x : Int)] w fun e w' => e = .returned (.int .u32 (Cm.step x : Int)) ∧ w = w' := by
  by_cases h0 : x % 2 = 0
  · have h1 : ((x : Int) % 2 == 0) = true := by rw [beq_iff_eq]; omega
    have hs : (Cm.step x : Int) = (x : Int) / 2 := by unfold Cm.step; rw [if_pos h0]; omega
    have HS := Lib.hid hs
    clear hs
    go_enter Try.func62, Try.ntmps62
    go_wp2
    go_ret
    exact ⟨by rw [HS.out]; rfl, rfl⟩
  · have h1 : ((x : Int) % 2 == 0) = false := by rw [beq_eq_false_iff_ne]; omega
    have hs : (Cm.step x : Int) = bits .xor .u32 ((x : Int) / 2) 3988292384 := by
      unfold Cm.step
      rw [if_neg h0]
      exact (u32_xor_nat (x / 2) 3988292384 (by omega) (by omega)).symm
    have HS := Lib.hid hs
    clear hs
    go_enter Try.func62, Try.ntmps62
    go_wp2
    go_ret
    exact ⟨by rw [HS.out]; rfl, rfl⟩

/-- The table behind k rounds. -/
def remCells (k : Nat) : Array Value := ((List.range 16).map fun i => Value.int .u32 (if i < k then (Cm.tbl i : Int) else 0)).toArray
theorem remCells_size (k : Nat) : (remCells k).size = 16 := by simp [remCells]
theorem remCells_at (k : Nat) (h : k < 16) : (remCells k)[k]? = some (.int .u32 0) := by simp [remCells, h]
theorem remCells_get (h : Nat) (hh : h < 16) : (remCells 16)[h]? = some (.int .u32 (Cm.tbl h : Int)) := by simp [remCells, hh]
theorem remCells_succ (k : Nat) (h : k < 16) : (remCells k).setIfInBounds k (.int .u32 (Cm.tbl k : Int)) = remCells (k + 1) := by
  apply Array.ext
  · simp [remCells]
  · intro i h1 h2
    rw [Array.getElem_setIfInBounds]
    by_cases e : k = i
    · subst e; simp [remCells]
    · simp only [e, if_false, remCells, List.getElem_toArray, List.getElem_map, List.getElem_range]
      have : (i < k) ↔ (i < k + 1) := by omega
      simp only [this]
    · simpa [remCells] using h2
theorem remCells_one (k : Nat) : (remCells k).all (·.oneCell') = true := by
  simp [remCells, Value.oneCell']

theorem below_setRow {B g : Nat} {a w : World} (h : Below B a w) (hg : B ≤ g) (cs : Array Value) : Below B a (w.setRow g cs) :=
  ⟨h.os, h.tape, h.output, by rw [size_setRow]; exact h.size, fun k hk => (setRow_other w g k cs (by omega)).trans (h.block k hk)⟩

theorem rem_any (w : World) : Calls Try.prog 54 #[] w fun e w' => e = .returned (.agg (remCells 16)) ∧ Below w.heap.size w w' := by
  have hinfo : (Try.prog.info? 90).map (·.size) = some (remCells 16).size := by rw [remCells_size]; kernel_rfl
  go_enter Try.func54, Try.ntmps54
  go_wp2
  go_loopw [3] (fun i wr => ∃ k : Nat, k ≤ 16 ∧ i = .int .i64 k ∧ wr.heap[w.heap.size]? = some (.cells (remCells k) 90 (0, 0)) ∧ Below w.heap.size w wr) (fun i _ => 16 - (intOf i).toNat)
  case atStart => exact ⟨0, by omega, rfl, heap_alloc_new _ _, (Below.refl _ _).alloc (Nat.le_refl _) _⟩
  case round =>
    obtain ⟨k, hk, rfl, hrow, hbel⟩ := hrel
    obtain ⟨wo, rfl⟩ : ∃ wo : World, wo = wr := ⟨_, rfl⟩
    by_cases hlt : k < 16
    · have hcell : wo.cell? ⟨w.heap.size, k, none⟩ = some (.int .u32 0) := by rw [cell_of_row _ _ _ _ _ _ hrow, remCells_at k hlt]
      have hfz := frozen_of_row wo w.heap.size k _ _ hrow
      have hnew := heap_setCell_same wo w.heap.size k _ _ (.int .u32 (Cm.tbl k : Int)) hrow
      rw [remCells_succ k hlt] at hnew
      have HN := Lib.hid hnew
      have HB := Lib.hid hbel
      clear hnew hrow hbel
      have hd : decide ((k : Int) < 16) = true := by simp; omega
      go_wp2
      go_loop [2, 8] (fun v j => ∃ m : Nat, m ≤ 4 ∧ j = .int .i64 m ∧ v = .int .u32 (Cm.steps m k : Int)) (fun _ j => 4 - (intOf j).toNat)
      case atStart => exact ⟨0, by omega, rfl, rfl⟩
      case round =>
        obtain ⟨m, hm, rfl, rfl⟩ := hrel
        by_cases hmlt : m < 4
        · have hx := Cm.steps_lt m k (by omega)
          go_wp2_with fail
          refine (step_any _ _ hx).mono ?_
          rintro e w' ⟨rfl, rfl⟩
          go_wp2
          go_round
          case rel => exact ⟨m + 1, by omega, by go_num, rfl⟩
          case measure => simp [intOf]; omega
        · obtain rfl : m = 4 := by omega
          go_wp2
          go_roundw
          case rel => exact ⟨k + 1, by omega, by go_num, HN.out, HB.out.setCell (p := ⟨w.heap.size, k, none⟩) (Nat.le_refl _) _⟩
          case measure => simp [intOf]; omega
    · obtain rfl : k = 16 := by omega
      have HR := Lib.hid hrow
      have hset := setRow_heap wo w.heap.size _ (remCells 16) _ _ hrow
      have HS := Lib.hid hset
      have HB := Lib.hid hbel
      clear hrow hset hbel
      go_wp2_with (first | (refine wpList_load_row rfl 90 _ rfl w.heap.size rfl 90 (remCells 16) (0, 0) _ HR.out Try.underlying90 rfl hinfo ?_) | (refine wpList_store_row rfl 90 _ _ rfl w.heap.size (remCells 16) rfl rfl 90 (remCells 16) HR.out hinfo rfl (remCells_one 16) ?_))
      refine bodyPost_ret (results_cell_row (p := 0) (ty := 90) rfl _ _ w.heap.size 90 (remCells 16) (0, 0) _ rfl HS.out Try.underlying90 rfl hinfo) rfl ⟨rfl, below_setRow HB.out (Nat.le_refl _) _⟩
end Go.Proofs.Ytncbimgbjkdocaa
