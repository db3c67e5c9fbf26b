/- Contracts of octet's Pad. -/
import Derived.Test.YtncbimgbjkdocaaOctetPut
import Derived.Test.YtncbimgbjkdocaaRepeat
import Derived.Outline
namespace Go.Proofs.Ytncbimgbjkdocaa
open Go.RowKit
set_option maxRecDepth 100000
set_option linter.unusedVariables false

/-- Bytes, and bytes 0 behind them, so many in all. -/
def padTo (l : List UInt8) (k : Nat) : List UInt8 := l ++ List.replicate (k - l.length) 0
theorem padTo_length (l : List UInt8) (k : Nat) (h : l.length ≤ k) : (padTo l k).length = k := by simp [padTo]; omega

theorem pad_no (l : List UInt8) (z : Int) (w : World) (h : ¬ ((l.length : Int) ≤ z ∧ z ≤ 1048576)) :
    Calls Try.prog 26 #[.string (Om.B l), .int .i64 z] w fun e w' => e = .returned (.tuple #[.string (Om.B []), .int .i64 2]) ∧ w = w' := by
  have hs : ((Om.B l).size : Int) = (l.length : Int) := rfl
  by_cases h1 : 1048576 < z
  · have h1' : decide (1048576 < z) = true := by simpa using h1
    clear h hs
    go_enter Try.func26, Try.ntmps26
    go_wp2
    go_ret2
    exact ⟨rfl, rfl⟩
  · have h1' : decide (1048576 < z) = false := by simpa using h1
    have h2 : decide (z < ((Om.B l).size : Int)) = true := by rw [hs]; simp; omega
    clear h hs
    go_enter Try.func26, Try.ntmps26
    go_wp2
    go_ret2
    exact ⟨rfl, rfl⟩
theorem pad_ok (l : List UInt8) (k : Nat) (w : World) (h : l.length ≤ k) (hk : k ≤ 1048576) :
    Calls Try.prog 26 #[.string (Om.B l), .int .i64 (k : Int)] w fun e w' => e = .returned (.tuple #[.string (Om.B (padTo l k)), .int .i64 0]) ∧ Below w.heap.size w w' := by
  have h1 : decide (1048576 < (k : Int)) = false := by simp; omega
  have h2 : decide (k < (Om.B l).size) = false := by rw [Om.B_size]; simp; omega
  have h3 : (Om.B l).size ≤ k := by rw [Om.B_size]; exact h
  have hcat := no_over l (List.replicate (k - l.length) 0) (by simp; omega)
  have hs : (Om.B l).size = l.length := rfl
  have HS := Lib.hid hs
  clear h hs
  go_enter Try.func26, Try.ntmps26
  go_wp2_with fail
  rw [show ((k : Int) - ((Om.B l).size : Int)) = ((k - l.length : Nat) : Int) from by have := HS.out; omega]
  refine (repeat_any (k - l.length) _ (by omega)).mono ?_
  rintro e w' ⟨rfl, hb⟩
  have HB := Lib.hid hb
  clear hb
  go_wp2
  go_ret2
  exact ⟨by unfold padTo; rw [← Om.B_append]; rfl, HB.out⟩
end Go.Proofs.Ytncbimgbjkdocaa
