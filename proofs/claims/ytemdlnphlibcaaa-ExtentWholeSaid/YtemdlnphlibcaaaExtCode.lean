/- Contracts of extent's end, isRegion, within, and of the order it sorts by. -/
import Derived.Test.YtemdlnphlibcaaaExtMem
namespace Go.Proofs.Ytemdlnphlibcaaa
namespace Xm
open Go.RowKit
set_option maxRecDepth 100000
set_option linter.unusedVariables false

theorem end_any (a b : Int) (w : World) (h1 : -9223372036854775808 ≤ a + b) (h2 : a + b ≤ 9223372036854775807) : Calls Try.prog 27 #[.agg #[.int .i64 a, .int .i64 b]] w fun e w' => e = .returned (.int .i64 (a + b)) ∧ Below w.heap.size w w' := by
  have HB := Lib.hid (below_new w (.cells #[.int .i64 a, .int .i64 b] 23))
  have hx := Bx.new w a b
  have c0 := hx.c0
  have c1 := hx.c1
  have e1 : IntKind.i64.wrap (a + b) = a + b := IntWalk.i64_in _ (by omega)
  clear hx h1 h2
  go_enter Try.func27, Try.ntmps27
  go_wp2_with fail
  go_ret
  exact ⟨rfl, HB.out⟩
theorem region_any (s l : Int) (w : World) : Calls Try.prog 21 #[.agg #[.int .i64 s, .int .i64 l]] w fun e w' => e = .returned (.bool (regB s l)) ∧ Below w.heap.size w w' := by
  have HB := Lib.hid (below_new w (.cells #[.int .i64 s, .int .i64 l] 23))
  have hx := Bx.new w s l
  have c0 := hx.c0
  have c1 := hx.c1
  clear hx
  cases h1 : decide (0 ≤ s) <;> cases h2 : decide (s ≤ 1048576) <;> cases h3 : decide (0 ≤ l)
  all_goals
    have HR := Lib.hid (show regB s l = _ by unfold regB; rw [h1, h2, h3])
    simp only [Bool.true_and, Bool.false_and, Bool.and_false, Bool.and_true] at HR
    go_enter Try.func21, Try.ntmps21
    go_wp2_with fail
    go_ret
    exact ⟨by rw [HR.out]; rfl, HB.out⟩
/-- Does an extent lie in a region? -/
theorem within_any (a b s l : Int) (w : World) (ha : a ≤ 9223372036854775807) (hr : regB s l = true) : Calls Try.prog 22 #[.agg #[.int .i64 a, .int .i64 b], .agg #[.int .i64 s, .int .i64 l]] w fun e w' => e = .returned (.bool (inB s l (a, b))) ∧ Below w.heap.size w w' := by
  obtain ⟨r1, r2, r3, r4⟩ := reg_iff.1 hr
  obtain ⟨W0, hW0⟩ : ∃ W0, (w.alloc (.cells #[.int .i64 a, .int .i64 b] 23)).alloc (.cells #[.int .i64 s, .int .i64 l] 23) = W0 := ⟨_, rfl⟩
  obtain ⟨hB, hx, hy, hsz⟩ := two_made w a b s l W0 hW0
  have HB := Lib.hid hB
  have a0 := hx.c0
  have a1 := hx.c1
  have b0 := hy.c0
  have b1 := hy.c1
  have k0 := hx.lt
  have k1 := hy.lt
  have C := Lib.hid (fun w1 => end_any s l w1 (by omega) (by omega))
  cases h1 : decide (1 ≤ b) with
  | false =>
    have HR := Lib.hid (show inB s l (a, b) = false by unfold inB; rw [show decide (1 ≤ (a, b).2) = false from h1]; rfl)
    have d1 : decide (b ≥ 1) = false := h1
    clear hB hx hy hsz r1 r2 r3 r4 hr ha k0 k1
    go_enter Try.func22, Try.ntmps22
    go_wp2_with fail
    clear hW0
    go_quiet (fail)
    go_wp2_with fail
    go_ret
    exact ⟨by rw [HR.out]; rfl, below_draws HB.out _⟩
  | true =>
    have d1 : decide (b ≥ 1) = true := h1
    cases h2 : decide (s ≤ a) with
    | false =>
      have d2 : decide (a ≥ s) = false := h2
      have HR := Lib.hid (show inB s l (a, b) = false by unfold inB; rw [show decide (s ≤ (a, b).1) = false from h2]; simp)
      clear hB hx hy hsz r1 r2 r3 r4 hr ha k0 k1
      go_enter Try.func22, Try.ntmps22
      go_wp2_with fail
      clear hW0
      go_quiet (fail)
      go_wp2_with fail
      go_ret
      exact ⟨by rw [HR.out]; rfl, below_draws HB.out _⟩
    | true =>
      have d2 : decide (a ≥ s) = true := h2
      have HR := Lib.hid (show inB s l (a, b) = decide (b ≤ s + l - a) by unfold inB; rw [show decide (s ≤ (a, b).1) = true from h2, show decide (1 ≤ (a, b).2) = true from h1]; rfl)
      have e2 : IntKind.i64.wrap (s + l - a) = s + l - a := IntWalk.i64_in _ (by simp at h2; omega)
      clear hB hx hy hsz r1 r2 r3 r4 hr ha
      go_enter Try.func22, Try.ntmps22
      go_wp2_with fail
      clear hW0
      go_region_held3 (fun w' => (w'.cell? ⟨w.heap.size, 0, none⟩ = some (.int .i64 a) ∧ w'.cell? ⟨w.heap.size, 1, none⟩ = some (.int .i64 b)) ∧ w'.cell? ⟨w.heap.size + 1, 0, none⟩ = some (.int .i64 s) ∧ w'.cell? ⟨w.heap.size + 1, 1, none⟩ = some (.int .i64 l))
        (first | go_keep | (refine ⟨⟨?_, ?_⟩, ?_, ?_⟩ <;> assumption) | (exact ⟨⟨(BX.out.cell (p := ⟨w.heap.size, 0, none⟩) k0).trans a0, (BX.out.cell (p := ⟨w.heap.size, 1, none⟩) k0).trans a1⟩, (BX.out.cell (p := ⟨w.heap.size + 1, 0, none⟩) k1).trans b0, (BX.out.cell (p := ⟨w.heap.size + 1, 1, none⟩) k1).trans b1⟩))
        (first | (go_at_call 27; refine (C.out _).mono ?_; rintro e w2 ⟨rfl, hb2⟩; have BX : Hid (Below W0.heap.size W0 w2) := (Below.refl _ _).drew.trans hb2; clear hb2))
      go_wp2_with fail
      go_ret
      exact ⟨by rw [HR.out]; rfl, HB.out.trans (BX.out.mono HB.out.size)⟩

/-- How two numbers are ordered. -/
def cmpI (x y : Int) : Int := if x < y then -1 else if y < x then 1 else 0
theorem isnan_any (x : Int) (w : World) : Calls Try.prog 31 #[.int .i64 x] w fun e w' => e = .returned (.bool false) ∧ w = w' := by
  have hd : ((x != x) : Bool) = false := by simp
  go_enter Try.func31, Try.ntmps31
  go_wp2_with fail
  go_ret
  exact ⟨rfl, rfl⟩
theorem compare_any (x y : Int) (w : World) : Calls Try.prog 26 #[.int .i64 x, .int .i64 y] w fun e w' => e = .returned (.int .i64 (cmpI x y)) ∧ w = w' := by
  have N := Lib.hid isnan_any
  cases h1 : decide (x < y) with
  | true =>
    have d1 : decide (x < y) = true := h1
    have HR := Lib.hid (show cmpI x y = -1 by unfold cmpI; rw [if_pos (by simpa using h1)])
    go_enter Try.func26, Try.ntmps26
    go_wp2_with (go_at_call 31; refine (N.out _ _).mono ?_; rintro e w2 ⟨rfl, rfl⟩)
    go_ret
    exact ⟨by rw [HR.out]; rfl, rfl⟩
  | false =>
    cases h2 : decide (y < x) with
    | true =>
      have d2 : decide (x > y) = true := h2
      have HR := Lib.hid (show cmpI x y = 1 by unfold cmpI; rw [if_neg (by simpa using h1), if_pos (by simpa using h2)])
      go_enter Try.func26, Try.ntmps26
      go_wp2_with (go_at_call 31; refine (N.out _ _).mono ?_; rintro e w2 ⟨rfl, rfl⟩)
      go_ret
      exact ⟨by rw [HR.out]; rfl, rfl⟩
    | false =>
      have d2 : decide (x > y) = false := h2
      have HR := Lib.hid (show cmpI x y = 0 by unfold cmpI; rw [if_neg (by simpa using h1), if_neg (by simpa using h2)])
      go_enter Try.func26, Try.ntmps26
      go_wp2_with (go_at_call 31; refine (N.out _ _).mono ?_; rintro e w2 ⟨rfl, rfl⟩)
      go_ret
      exact ⟨by rw [HR.out]; rfl, rfl⟩
end Xm
end Go.Proofs.Ytemdlnphlibcaaa
