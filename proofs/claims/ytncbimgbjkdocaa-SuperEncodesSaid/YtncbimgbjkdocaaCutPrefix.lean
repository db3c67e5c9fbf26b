/- The contract of strings.CutPrefix, of a text that is as long as the prefix. -/
import Derived.Test.YtncbimgbjkdocaaCrcOpen
import Derived.Outline
namespace Go.Proofs.Ytncbimgbjkdocaa
open Go.RowKit
set_option maxRecDepth 100000
set_option linter.unusedVariables false

theorem B_eq {p q : List UInt8} (h : p = q) : ((Om.B p).toList == (Om.B q).toList) = true := by rw [h]; exact beq_self_eq_true _
/-- Does it begin so? Both are longer than nothing. -/
theorem hasprefix_any (l q : List UInt8) (w : World) (h : q.length ≤ l.length) :
    Calls Try.prog 57 #[.string (Om.B l), .string (Om.B q)] w fun e w' => e = .returned (.bool ((Om.B (l.take q.length)).toList == (Om.B q).toList)) ∧ w = w' := by
  have d1 : decide (((Om.B q).size : Int) ≤ ((Om.B l).size : Int)) = true := by rw [Om.B_size, Om.B_size]; simp; exact h
  have hx : (Om.B l).extract 0 (Om.B q).size = Om.B (l.take q.length) := by rw [Om.extract_front, Om.L_B, Om.B_size]
  have h0 : (0 : Int) ≤ ((Om.B q).size : Int) := by omega
  have h1 : ((Om.B q).size : Int) ≤ ((Om.B l).size : Int) := by simpa using d1
  clear h
  go_enter Try.func57, Try.ntmps57
  go_wp2
  go_ret
  exact ⟨rfl, rfl⟩

theorem tail_of (l q : List UInt8) : (Om.B l).extract q.length (Om.B l).size = Om.B (l.drop q.length) := by rw [Om.extract_end, Om.L_B]
theorem lcut_yes (l q : List UInt8) (w : World) (h : q.length ≤ l.length) (he : l.take q.length = q) :
    Calls Try.prog 45 #[.string (Om.B l), .string (Om.B q)] w fun e w' => e = .returned (.tuple #[.string (Om.B (l.drop q.length)), .bool true]) ∧ w = w' := by
  have C := Lib.hid (fun w1 => hasprefix_any l q w1 h)
  rw [B_eq he] at C
  have hx := tail_of l q
  have hs : (Om.B q).size = q.length := rfl
  have h0 : (0 : Int) ≤ ((Om.B q).size : Int) := by omega
  have h1 : ((Om.B q).size : Int) ≤ ((Om.B l).size : Int) := by rw [Om.B_size, Om.B_size]; omega
  rw [← hs] at hx
  have hx' := hx
  obtain ⟨r, hr⟩ : ∃ r, r = Om.B (l.drop (Om.B q).size) := ⟨_, rfl⟩
  rw [← hr] at hx
  rw [show l.drop q.length = l.drop (Om.B q).size from rfl, ← hr]
  clear h he hs hx' hr
  go_enter Try.func45, Try.ntmps45
  go_wp2_with fail
  refine (C.out _).mono ?_
  rintro e w1 ⟨rfl, rfl⟩
  go_wp2
  go_ret2
  exact ⟨rfl, rfl⟩
theorem lcut_no (l q : List UInt8) (w : World) (h : q.length ≤ l.length) (he : l.take q.length ≠ q) :
    Calls Try.prog 45 #[.string (Om.B l), .string (Om.B q)] w fun e w' => e = .returned (.tuple #[.string (Om.B l), .bool false]) ∧ w = w' := by
  have C := Lib.hid (fun w1 => hasprefix_any l q w1 h)
  rw [B_ne he] at C
  clear h he
  go_enter Try.func45, Try.ntmps45
  go_wp2_with fail
  refine (C.out _).mono ?_
  rintro e w1 ⟨rfl, rfl⟩
  go_wp2
  go_ret2
  exact ⟨rfl, rfl⟩
theorem cut_yes (l q : List UInt8) (w : World) (h : q.length ≤ l.length) (he : l.take q.length = q) :
    Calls Try.prog 32 #[.string (Om.B l), .string (Om.B q)] w fun e w' => e = .returned (.tuple #[.string (Om.B (l.drop q.length)), .bool true]) ∧ w = w' := by
  have C := Lib.hid (fun w1 => lcut_yes l q w1 h he)
  clear h he
  go_enter Try.func32, Try.ntmps32
  go_wp2_with fail
  refine (C.out _).mono ?_
  rintro e w1 ⟨rfl, rfl⟩
  go_wp2
  go_ret2
  exact ⟨rfl, rfl⟩
theorem cut_no (l q : List UInt8) (w : World) (h : q.length ≤ l.length) (he : l.take q.length ≠ q) :
    Calls Try.prog 32 #[.string (Om.B l), .string (Om.B q)] w fun e w' => e = .returned (.tuple #[.string (Om.B l), .bool false]) ∧ w = w' := by
  have C := Lib.hid (fun w1 => lcut_no l q w1 h he)
  clear h he
  go_enter Try.func32, Try.ntmps32
  go_wp2_with fail
  refine (C.out _).mono ?_
  rintro e w1 ⟨rfl, rfl⟩
  go_wp2
  go_ret2
  exact ⟨rfl, rfl⟩
end Go.Proofs.Ytncbimgbjkdocaa
