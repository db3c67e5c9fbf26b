/- Contracts of a geometry's Pages; what refuse says. -/
import Derived.Test.YtilfipebmgmmeaaGeomWalks
namespace Go.Proofs.Ytilfipebmgmmeaa
namespace Geo
open Go.RowKit
set_option linter.unusedVariables false

theorem pages_no (o c n : Int) (w : World) (hr : Em.rightB o c = false ∨ n < 0) : Calls Try.prog 19 #[.agg #[.int .i64 o, .int .i64 c], .int .i64 n] w fun e w' => e = .returned (.int .i64 0) ∧ Below w.heap.size w w' := by
  have C := fun w1 => Lib.hid (right_any o c w1)
  have HB : Hid (Below w.heap.size w (w.alloc (.cells #[.int .i64 o, .int .i64 c] 34))) := (Below.refl _ w).alloc (Nat.le_refl _) _
  cases h : Em.rightB o c with
  | false =>
    rw [h] at C
    clear hr h
    go_enter Try.func19, Try.ntmps19
    go_wp2_with fail
    refine (C _).out.mono ?_
    rintro e w1 ⟨rfl, hb⟩
    have HB1 := Lib.hid (HB.out.trans (hb.mono HB.out.size))
    clear hb
    go_wp2_with fail
    go_ret
    exact ⟨rfl, HB1.out⟩
  | true =>
    rw [h] at C hr
    have hn : n < 0 := hr.resolve_left (by decide)
    clear hr h
    go_enter Try.func19, Try.ntmps19
    go_wp2_with fail
    refine (C _).out.mono ?_
    rintro e w1 ⟨rfl, hb⟩
    have HB1 := Lib.hid (HB.out.trans (hb.mono HB.out.size))
    clear hb
    go_wp2_with fail
    go_ret
    exact ⟨rfl, HB1.out⟩
theorem pages_ok (o c : Int) (n : Nat) (w : World) (hr : Em.rightB o c = true) (hn : n ≤ 9223372036854775807) : Calls Try.prog 19 #[.agg #[.int .i64 o, .int .i64 c], .int .i64 (n : Int)] w fun e w' => e = .returned (.int .i64 (Em.parts n 13 : Nat)) ∧ Below w.heap.size w w' := by
  have C := fun w1 => Lib.hid (right_any o c w1)
  rw [hr] at C
  have D := fun w1 => Lib.hid (parts_any n 13 w1 (by omega) (by omega) (by omega))
  have HB : Hid (Below w.heap.size w (w.alloc (.cells #[.int .i64 o, .int .i64 c] 34))) := (Below.refl _ w).alloc (Nat.le_refl _) _
  have hd : decide ((n : Int) < 0) = false := by simp
  clear hr
  go_enter Try.func19, Try.ntmps19
  go_wp2_with fail
  refine (C _).out.mono ?_
  rintro e w1 ⟨rfl, hb⟩
  have HB1 := Lib.hid (HB.out.trans (hb.mono HB.out.size))
  clear hb
  go_wp2_with fail
  refine (D _).out.mono ?_
  rintro e w2 ⟨rfl, rfl⟩
  go_wp2_with fail
  go_ret
  exact ⟨rfl, HB1.out⟩

theorem refuse_ok {o c n lo hi : Int} (hr : Em.rightB o c = true) (h1 : lo ≤ n) (h2 : n ≤ hi) : refuse o c n lo hi = 0 := by unfold refuse; rw [if_pos hr, if_neg (by omega)]
theorem refuse_out {o c n lo hi : Int} (hr : Em.rightB o c = true) (h : n < lo ∨ hi < n) : refuse o c n lo hi = 2 := by unfold refuse; rw [if_pos hr, if_pos h]
theorem refuse_wrong {o c n lo hi : Int} (hr : Em.rightB o c = false) : refuse o c n lo hi = 1 := by unfold refuse; rw [hr]; rfl
theorem parts_13_le {n : Nat} (h : n ≤ 1048576) : Em.parts n 13 ≤ 80660 := by rw [Em.parts_13]; omega
end Geo
end Go.Proofs.Ytilfipebmgmmeaa
