/- The document's own Floor and Need, and that gauge's are the same. -/
import Derived.Test.YtleajpcoklmgkaaGaugeWhole
namespace Go.Proofs.Ytleajpcoklmgkaa
open Go.ChangeShapes Go.WideShapes Go.ChangeAt Go.RowKit
set_option linter.unusedVariables false

theorem rparts_any (n : Nat) (w : World) (hn : n < 18446744073709551616) :
    Calls Try.prog 34 #[.int .u64 (n : Int)] w fun e w' => e = .returned (.tuple #[.int .u64 (Gm.mag n), .int .i64 (Gm.pw n)]) ∧ w = w' := by
  have hx := Gm.ex_lt n
  have hf := Gm.fr_lt n
  unfold Gm.mag Gm.pw
  by_cases h : Gm.ex n = 0
  · have a1 : ((Gm.ex n : Int) == 0) = true := by simp; omega
    rw [if_pos h, if_pos h]
    clear h
    go_enter Try.func34, Try.ntmps34
    go_wp2_with (first | (go_at_call 27; refine (rexp_any _ _ hn).mono ?_; rintro e w' ⟨rfl, rfl⟩) | (go_at_call 28; refine (rfr_any _ _ hn).mono ?_; rintro e w' ⟨rfl, rfl⟩))
    go_ret2
    exact ⟨rfl, rfl⟩
  · have a1 : ((Gm.ex n : Int) == 0) = false := by simp; omega
    rw [if_neg h, if_neg h]
    go_enter Try.func34, Try.ntmps34
    go_wp2_with (first | (go_at_call 27; refine (rexp_any _ _ hn).mono ?_; rintro e w' ⟨rfl, rfl⟩) | (go_at_call 28; refine (rfr_any _ _ hn).mono ?_; rintro e w' ⟨rfl, rfl⟩))
    go_ret2
    exact ⟨ret_int2 (by omega) (by omega), rfl⟩

def Gives (f : Nat) (args : Array Value) (v e : Int) : Prop :=
  ∀ w, Calls Try.prog f args w fun r w' => r = .returned (.tuple #[.int .i64 v, .int .i64 e]) ∧ w = w'

theorem rfloor_nan (n : Nat) (hn : n < 18446744073709551616) (hk : Gm.kind n = 0) : Gives 20 #[.int .u64 (n : Int)] 0 2 := by
  intro w
  have a1 : (Gm.kind n == 0) = true := by simp; omega
  clear hk
  go_enter Try.func20, Try.ntmps20
  go_wp2_with (go_at_call 14; refine (rkind_any _ _ hn).mono ?_; rintro e w' ⟨rfl, rfl⟩)
  go_ret2
  exact ⟨rfl, rfl⟩
theorem rfloor_inf (n : Nat) (hn : n < 18446744073709551616) (hk : Gm.kind n = 1) : Gives 20 #[.int .u64 (n : Int)] 0 2 := by
  intro w
  have a1 : (Gm.kind n == 0) = false := by simp; omega
  have a2 : (Gm.kind n == 1) = true := by simp; omega
  clear hk
  go_enter Try.func20, Try.ntmps20
  go_wp2_with (go_at_call 14; refine (rkind_any _ _ hn).mono ?_; rintro e w' ⟨rfl, rfl⟩)
  go_ret2
  exact ⟨rfl, rfl⟩

/-- What 'whole' gives, as one thing. -/
def Whole (m : Nat) (p : Int) (v : Nat) (l ok : Bool) : Prop :=
  ∀ w, Calls Try.prog 35 #[.int .u64 (m : Int), .int .i64 p] w fun r w' => r = .returned (.tuple #[.int .i64 (v : Int), .bool l, .bool ok]) ∧ w = w'

theorem rfloor_over (n v : Nat) (l : Bool) (hn : n < 18446744073709551616) (hk0 : Gm.kind n ≠ 0) (hk1 : Gm.kind n ≠ 1) (hw : Whole (Gm.mag n) (Gm.pw n) v l false) :
    Gives 20 #[.int .u64 (n : Int)] 0 2 := by
  intro w
  have a1 : (Gm.kind n == 0) = false := by simp; omega
  have a2 : (Gm.kind n == 1) = false := by simp; omega
  have H := Lib.hid hw
  clear hk0 hk1 hw
  go_enter Try.func20, Try.ntmps20
  go_wp2_with (first | (go_at_call 14; refine (rkind_any _ _ hn).mono ?_; rintro e w' ⟨rfl, rfl⟩) | (go_at_call 34; refine (rparts_any _ _ hn).mono ?_; rintro e w' ⟨rfl, rfl⟩) | (go_at_call 35; refine (H.out _).mono ?_; rintro e w' ⟨rfl, rfl⟩))
  go_ret2
  exact ⟨rfl, rfl⟩
theorem rfloor_ok (n v : Nat) (l : Bool) (hn : n < 18446744073709551616) (hk0 : Gm.kind n ≠ 0) (hk1 : Gm.kind n ≠ 1) (hv : v < 4611686018427387904) (hw : Whole (Gm.mag n) (Gm.pw n) v l true) :
    Gives 20 #[.int .u64 (n : Int)] (if Gm.neg n then -((v + l.toNat : Nat) : Int) else (v : Int)) 0 := by
  intro w
  have a1 : (Gm.kind n == 0) = false := by simp; omega
  have a2 : (Gm.kind n == 1) = false := by simp; omega
  have H := Lib.hid hw
  clear hk0 hk1 hw
  cases hs : Gm.neg n <;> cases l
  all_goals
    go_enter Try.func20, Try.ntmps20
    go_wp2_with (first | (go_at_call 14; refine (rkind_any _ _ hn).mono ?_; rintro e w' ⟨rfl, rfl⟩) | (go_at_call 34; refine (rparts_any _ _ hn).mono ?_; rintro e w' ⟨rfl, rfl⟩) | (go_at_call 35; refine (H.out _).mono ?_; rintro e w' ⟨rfl, rfl⟩) | (go_at_call 31; refine (rminus_any _ _).mono ?_; rintro e w' ⟨rfl, rfl⟩))
    go_ret2
    first | exact ⟨rfl, rfl⟩ | (refine ⟨ret_int2 ?_ rfl, rfl⟩; have t1 : true.toNat = 1 := rfl; have t0 : false.toNat = 0 := rfl; omega)

theorem whole_floor (n : Nat) (h : Gm.ex n < 1085) : ∃ v l, v < 4611686018427387904 ∧ Whole (Gm.mag n) (Gm.pw n) v l true ∧ Gm.floorV n = (if Gm.neg n then -((v + l.toNat : Nat) : Int) else (v : Int)) := by
  have hm := Gm.mag_lt n
  have hok := (Gm.floorMag_ok n h).2
  by_cases hx : 1075 ≤ Gm.ex n
  · have hp : Gm.pw n = ((Gm.ex n - 1075 : Nat) : Int) := by unfold Gm.pw; rw [if_neg (by omega)]; omega
    have e := Gm.floorMag_up n hx
    refine ⟨Gm.floorMag n, false, hok, ?_, ?_⟩
    · intro w
      rw [hp, e]
      exact rwhole_up (Gm.mag n) (Gm.ex n - 1075) w (by omega) (by omega) (by unfold dbl; omega)
    · unfold Gm.floorV; simp
  · obtain ⟨k, hk1, hk2, hk⟩ := Gm.pw_neg n (by omega)
    have e := Gm.floorMag_down n k hk
    refine ⟨hlf (Gm.mag n) k, lft (Gm.mag n) k, ?_, ?_, ?_⟩
    · have := hlf_le (Gm.mag n) k; omega
    · intro w
      rw [hk]
      exact rwhole_down (Gm.mag n) k w (by omega) hk1 (by omega)
    · unfold Gm.floorV
      rw [e]
      unfold hlf lft
      cases Gm.neg n <;> simp

theorem floor_same (n : Nat) (hn : n < 18446744073709551616) : ∃ v e, Gives 19 #[.float .f64 n] v e ∧ Gives 20 #[.int .u64 (n : Int)] v e := by
  by_cases hk0 : Gm.kind n = 0
  · exact ⟨0, 2, fun w => floor_nan n w hn hk0, rfloor_nan n hn hk0⟩
  · by_cases hx : Gm.ex n < 1085
    · have hk1 : Gm.kind n ≠ 1 := fun c => by have := (Gm.kind_inf n).1 c; omega
      obtain ⟨v, l, hv, hw, he⟩ := whole_floor n hx
      refine ⟨Gm.floorV n, 0, fun w => floor_ok n w hn hx, ?_⟩
      rw [he]
      exact rfloor_ok n v l hn hk0 hk1 hv hw
    · refine ⟨0, 2, fun w => floor_big n w hn hk0 (by omega), ?_⟩
      by_cases hk1 : Gm.kind n = 1
      · exact rfloor_inf n hn hk1
      · refine rfloor_over n 0 false hn hk0 hk1 fun w => ?_
        have hp : Gm.pw n = ((Gm.ex n - 1075 : Nat) : Int) := by unfold Gm.pw; rw [if_neg (by omega)]; omega
        have hxl := Gm.ex_lt n
        rw [hp]
        refine rwhole_over (Gm.mag n) (Gm.ex n - 1075) w (by have := Gm.mag_lt n; omega) (by omega) ?_
        have h1 := Gm.mag_ge n (by omega)
        have h2 := dbl_mono (Gm.mag n) 10 (Gm.ex n - 1075) (by omega)
        have h3 : dbl (Gm.mag n) 10 = Gm.mag n * 1024 := rfl
        omega
end Go.Proofs.Ytleajpcoklmgkaa
