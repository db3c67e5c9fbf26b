/- Contracts of the document's Put. -/
import Derived.Test.YtncbimgbjkdocaaOctetPut
namespace Go.Proofs.Ytncbimgbjkdocaa
open Go.RowKit
set_option linter.unusedVariables false

theorem rput_arg (n z : Int) (w : World) (h : ¬ (0 ≤ z ∧ z ≤ 8)) : Calls Try.prog 42 #[.int .u64 n, .int .i64 z] w fun e w' => e = .returned (.tuple #[.string (Om.B []), .int .i64 1]) ∧ w = w' := by
  by_cases h0 : z < 0
  · clear h
    go_enter Try.func42, Try.ntmps42
    go_wp2
    go_ret2
    exact ⟨rfl, rfl⟩
  · have h8 : 8 < z := by omega
    clear h
    go_enter Try.func42, Try.ntmps42
    go_wp2
    go_ret2
    exact ⟨rfl, rfl⟩

set_option maxHeartbeats 400000 in
theorem rput_any (n k : Nat) (w : World) (h : k ≤ 8) (hn : n < 18446744073709551616) : Calls Try.prog 42 #[.int .u64 (n : Int), .int .i64 (k : Int)] w fun e w' => e = .returned (.tuple #[.string (Om.B (putS n k)), .int .i64 (putE n k)]) ∧ Below w.heap.size w w' := by
  have hk0 : decide ((k : Int) < 0) = false := by simp
  have hk8 : decide (8 < (k : Int)) = false := by simp; omega
  go_enter Try.func42, Try.ntmps42
  go_wp2
  go_loopw [0, 6, 7] (fun m s i wr => ∃ j : Nat, j ≤ k ∧ i = .int .i64 j ∧ m = .int .u64 (Om.sh n j : Int) ∧ s = .string (Om.B (Om.low n j)) ∧ Below w.heap.size w wr) (fun _ _ i _ => k - (intOf i).toNat)
  case atStart => exact ⟨0, Nat.zero_le _, rfl, by simp [Om.sh], rfl, Below.refl _ _⟩
  case round =>
    obtain ⟨j, hj, rfl, rfl, rfl, hbel⟩ := hrel
    by_cases hlt : j < k
    · have hso := str_one wr (Om.sh n j)
      have hcat := no_over (Om.low n j) [UInt8.ofNat (Om.sh n j)] (by rw [Om.low_length]; simp; omega)
      have hshn : Om.sh n j < 18446744073709551616 := Nat.lt_of_le_of_lt (Nat.div_le_self _ _) hn
      go_wp2
      go_roundw
      case rel =>
        refine ⟨j + 1, by omega, by go_num, ?_, ?_, hbel.alloc hbel.size _⟩
        · rw [← sh_next]; go_num
        · rw [Om.low_succ, Om.B_append]; rfl
      case measure => simp [intOf]; omega
    · obtain rfl : j = k := by omega
      by_cases hf : n < 256 ^ j
      · have h1 : ¬ 0 < Om.sh n j := by rw [Om.sh_zero n j hf]; omega
        have HF := Lib.hid hf
        clear hf
        go_wp2
        go_ret2
        exact ⟨by unfold putS putE; rw [if_pos HF.out, if_pos HF.out]; rfl, hbel⟩
      · have h1 : 0 < Om.sh n j := Om.sh_pos n j hf
        have HF := Lib.hid hf
        clear hf
        go_wp2
        go_ret2
        exact ⟨by unfold putS putE; rw [if_neg HF.out, if_neg HF.out]; rfl, hbel⟩
end Go.Proofs.Ytncbimgbjkdocaa
