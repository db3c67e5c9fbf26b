/- No origin at all; the law's fits of one act. -/
import Derived.Test.YtbmabcddciibfaaOrgCode
import Derived.LoopTactic
import Derived.Lib.Agree
namespace Go.Proofs.Ytbmabcddciibfaa
namespace Og
open Go.RowKit
set_option maxRecDepth 100000
set_option linter.unusedVariables false
theorem oread_nil (a k : Int) (w : World) : Calls Try.prog 9 #[.pointer none, .int .i64 a, .int .i64 k] w fun e w' => e = .returned (.tuple #[.string (Om.B []), .int .i64 1]) ∧ w = w' := by
  go_enter Try.func9, Try.ntmps9
  go_wp2_with fail
  go_ret2
  exact ⟨rfl, rfl⟩
theorem ochunk_nil (c : Int) (w : World) : Calls Try.prog 10 #[.pointer none, .int .i64 c] w fun e w' => e = .returned (.tuple #[.string (Om.B []), .int .i64 1]) ∧ w = w' := by
  go_enter Try.func10, Try.ntmps10
  go_wp2_with fail
  go_ret2
  exact ⟨rfl, rfl⟩
theorem owrite_nil (a : Int) (d : ByteArray) (w : World) : Calls Try.prog 11 #[.pointer none, .int .i64 a, .string d] w fun e w' => e = .returned (.int .i64 1) ∧ w = w' := by
  go_enter Try.func11, Try.ntmps11
  go_wp2_with fail
  go_ret
  exact ⟨rfl, rfl⟩
theorem oput_nil (c : Int) (d : ByteArray) (w : World) : Calls Try.prog 12 #[.pointer none, .int .i64 c, .string d] w fun e w' => e = .returned (.int .i64 1) ∧ w = w' := by
  go_enter Try.func12, Try.ntmps12
  go_wp2_with fail
  go_ret
  exact ⟨rfl, rfl⟩
theorem oflush_nil (w : World) : Calls Try.prog 13 #[.pointer none] w fun e w' => e = .returned (.int .i64 1) ∧ w = w' := by
  go_enter Try.func13, Try.ntmps13
  go_wp2_with fail
  go_ret
  exact ⟨rfl, rfl⟩
theorem ofits_one {w : World} {b : Nat} {D : ByteArray} {L : Nat} (hc : w.cell? ⟨b, 3, none⟩ = some (.string D)) (hs : D.size = L) :
    Calls Try.prog 5 #[.slice (some ⟨b, 0, none⟩) 1 1] w fun e w' => e = .returned (.bool (decide (L ≤ 8320))) ∧ w = w' := by
  by_cases h : L ≤ 8320
  · have e1 : decide ((8320 : Int) < (L : Int)) = false := by simp; omega
    have e2 : decide (8320 < L) = false := by simp; omega
    rw [decide_eq_true h]
    clear h
    go_enter Try.func5, Try.ntmps5
    go_wp2_with fail
    go_loopw [3] (fun i wr => ∃ k : Nat, i = .int .i64 (k : Int) ∧ k ≤ 1 ∧ wr = w) (fun i _ => 1 - (Lib.intOf i).toNat)
    case atStart => exact ⟨0, rfl, by omega, rfl⟩
    case round =>
      obtain ⟨k, rfl, hk, rfl⟩ := hrel
      by_cases h0 : k = 0
      · subst h0
        go_wp2_with fail
        go_roundw
        case rel => exact ⟨1, rfl, by omega, by first | rfl | trivial⟩
        case measure => simp [Lib.intOf]
      · obtain rfl : k = 1 := by omega
        go_wp2_with fail
        go_ret
        exact ⟨rfl, rfl⟩
  · have e1 : decide ((8320 : Int) < (L : Int)) = true := by simp; omega
    have e2 : decide (8320 < L) = true := by simp; omega
    rw [decide_eq_false h]
    clear h
    go_enter Try.func5, Try.ntmps5
    go_wp2_with fail
    go_loopw [3] (fun i wr => i = .int .i64 0 ∧ wr = w) (fun i _ => 1 - (Lib.intOf i).toNat)
    case atStart => exact ⟨rfl, rfl⟩
    case round =>
      obtain ⟨rfl, rfl⟩ := hrel
      go_wp2_with fail
      go_ret
      exact ⟨rfl, rfl⟩
end Og
end Go.Proofs.Ytbmabcddciibfaa