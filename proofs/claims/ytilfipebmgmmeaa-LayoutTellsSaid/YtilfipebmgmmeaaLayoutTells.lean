/- The walk of the statement LayoutTells. (Made by wip/tools/gen_layouttells.py.) -/
import Derived.Test.YtilfipebmgmmeaaLayoutAlive
import Derived.Test.YtilfipebmgmmeaaSuperRRight
namespace Go.Proofs.Ytilfipebmgmmeaa
open Go.RowKit
set_option maxRecDepth 100000
set_option linter.unusedVariables false

theorem rlstores_ok (a n g : Int) (w : World) (h : Um.okU a n g = true) : Calls Try.prog 12 #[.agg #[.int .i64 a, .int .i64 n, .int .i64 g]] w fun e w' => e = .returned (.agg #[.int .i64 (17 + n), .int .i64 (a - (17 + n))]) ∧ Below w.heap.size w w' := by
  obtain ⟨h1, h2, h3, h4, h5, h6⟩ := Um.okU_small h
  have e1 : IntKind.i64.wrap (17 + n) = 17 + n := IntWalk.i64_in _ (by omega)
  have e2 : IntKind.i64.wrap (a - 17) = a - 17 := IntWalk.i64_in _ (by omega)
  have e3 : IntKind.i64.wrap (a - 17 - n) = a - 17 - n := IntWalk.i64_in _ (by omega)
  have E4 := Lib.hid (show a - (17 + n) = a - 17 - n by omega)
  obtain ⟨W0, hW0⟩ : ∃ W0, (w.alloc (.cells #[.int .i64 a, .int .i64 n, .int .i64 g] 23)).alloc (.cells #[.int .i64 0, .int .i64 0] 37) = W0 := ⟨_, rfl⟩
  have hx0 := ux_alloc w a n g 23
  have hn := heap_alloc_new (w.alloc (.cells #[.int .i64 a, .int .i64 n, .int .i64 g] 23)) (.cells #[.int .i64 0, .int .i64 0] 37)
  rw [show (w.alloc (.cells #[.int .i64 a, .int .i64 n, .int .i64 g] 23)).heap.size = w.heap.size + 1 by simp] at hn
  have hx := hx0.next ((Below.refl _ _).alloc (Nat.le_refl _) (.cells #[.int .i64 0, .int .i64 0] 37))
  have hB : Below w.heap.size w ((w.alloc (.cells #[.int .i64 a, .int .i64 n, .int .i64 g] 23)).alloc (.cells #[.int .i64 0, .int .i64 0] 37)) := ((Below.refl _ w).alloc (Nat.le_refl _) _).alloc (by simp) _
  rw [hW0] at hn hx hB
  have HB := Lib.hid hB
  have R1 := Lib.hid hn
  obtain ⟨z0, z1, zf⟩ := duo_cells hn
  obtain ⟨_, a0, a1, a2⟩ := hx
  clear hB hn hx0 h h1 h2 h3 h4 h5 h6
  go_enter Try.func12, Try.ntmps12
  go_wp2_with fail
  clear hW0
  go_wp2_with fail
  refine bodyPost_ret (results_cell_row (p := 2) (ty := 37) rfl _ _ (w.heap.size + 1) 37 _ (0, 0) _ rfl (duo_set R1.out _ _) Try.underlying37 rfl extent_info) rfl ⟨?_, ?_⟩
  · rw [E4.out]
  · exact below_duo HB.out (by omega) _ _

theorem tells_wrong (a n g i : Int) (w : World) (h : Um.okU a n g = false) :
    Calls Try.prog 3 #[.agg #[.int .i64 a, .int .i64 n, .int .i64 g], .int .i64 i] w fun e w' => e = .returned (.bool true) ∧ Below w.heap.size w w' := by
  have C1 := Lib.hid (fun w1 => of_no a n g w1 h)
  have C2 := Lib.hid (fun w1 => ruright_any a n g w1)
  rw [h] at C2
  unfold Uv at C2
  have hz : Um.okU 0 0 0 = false := by decide
  have C3 := Lib.hid (fun w1 => lslot_no 0 0 0 i w1 hz)
  have C4 := Lib.hid yalive_any
  have C5 := Lib.hid (fun w1 => lgeom_no 0 0 0 w1 hz)
  have C6 := Lib.hid (fun w1 => lorigin_no 0 0 0 w1 hz)
  have C7 := Lib.hid (fun w1 => lstores_no 0 0 0 w1 hz)
  have HX0 := Lib.hid (ux_alloc w a n g 23)
  have HB0 : Hid (Below w.heap.size w (w.alloc (.cells #[.int .i64 a, .int .i64 n, .int .i64 g] 23))) := (Below.refl _ w).alloc (Nat.le_refl _) _
  obtain ⟨_, a0, a1, a2⟩ := HX0.out
  clear h hz
  go_enter Try.func3, Try.ntmps3
  go_wp2_with fail
  refine (C1.out _).mono ?_
  rintro e w1 ⟨rfl, hb1⟩
  have hb1' := HB0.out.trans (hb1.mono HB0.out.size)
  have hn1 : Below w1.heap.size w1 (w1.alloc (.cells #[.int .i64 0, .int .i64 0, .int .i64 0] 25)) := (Below.refl _ _).alloc (Nat.le_refl _) _
  have HB1 := Lib.hid (hb1'.trans (hn1.mono hb1'.size))
  have HX1 := Lib.hid ((HX0.out.next hb1).next hn1)
  have HL1 := Lib.hid (ux_alloc w1 0 0 0 25)
  clear hb1 hb1' hn1 a0 a1 a2
  obtain ⟨_, a0, a1, a2⟩ := HX1.out
  obtain ⟨_, b0, b1, b2⟩ := HL1.out
  go_wp2_with fail
  refine (C2.out _).mono ?_
  rintro e w2 ⟨rfl, hb⟩
  have HB2 := Lib.hid (HB1.out.trans (hb.mono HB1.out.size))
  have HL2 := Lib.hid (HL1.out.next hb)
  clear hb a0 a1 a2 b0 b1 b2
  obtain ⟨_, b0, b1, b2⟩ := HL2.out
  go_wp2_with fail
  refine (C3.out _).mono ?_
  rintro e w3 ⟨rfl, hb⟩
  have HB3 := Lib.hid (HB2.out.trans (hb.mono HB2.out.size))
  have HL3 := Lib.hid (HL2.out.next hb)
  clear hb b0 b1 b2
  obtain ⟨_, b0, b1, b2⟩ := HL3.out
  go_wp2_with fail
  refine (C4.out _).mono ?_
  rintro e w4 ⟨rfl, hb⟩
  have HB4 := Lib.hid (HB3.out.trans (hb.mono HB3.out.size))
  have HL4 := Lib.hid (HL3.out.next hb)
  clear hb b0 b1 b2
  obtain ⟨_, b0, b1, b2⟩ := HL4.out
  go_wp2_with fail
  refine (C5.out _).mono ?_
  rintro e w5 ⟨rfl, hb⟩
  have HB5 := Lib.hid (HB4.out.trans (hb.mono HB4.out.size))
  have HL5 := Lib.hid (HL4.out.next hb)
  clear hb b0 b1 b2
  obtain ⟨_, b0, b1, b2⟩ := HL5.out
  go_wp2_with fail
  refine (C6.out _).mono ?_
  rintro e w6 ⟨rfl, hb⟩
  have HB6 := Lib.hid (HB5.out.trans (hb.mono HB5.out.size))
  have HL6 := Lib.hid (HL5.out.next hb)
  clear hb b0 b1 b2
  obtain ⟨_, b0, b1, b2⟩ := HL6.out
  go_wp2_with fail
  refine (C7.out _).mono ?_
  rintro e w7 ⟨rfl, hb⟩
  have HB7 := Lib.hid (HB6.out.trans (hb.mono HB6.out.size))
  have HL7 := Lib.hid (HL6.out.next hb)
  clear hb b0 b1 b2
  obtain ⟨_, b0, b1, b2⟩ := HL7.out
  go_wp2_with fail
  go_ret
  exact ⟨rfl, HB7.out⟩
set_option maxHeartbeats 2000000 in
theorem tells_low (a n g i : Int) (w : World) (h : Um.okU a n g = true) (h1 : i < 0) :
    Calls Try.prog 3 #[.agg #[.int .i64 a, .int .i64 n, .int .i64 g], .int .i64 i] w fun e w' => e = .returned (.bool true) ∧ Below w.heap.size w w' := by
  have C1 := Lib.hid (fun w1 => of_ok a n g w1 h)
  have C2 := Lib.hid (fun w1 => ruright_any a n g w1)
  rw [h] at C2
  unfold Uv at C2
  have C3 := Lib.hid (fun w1 => lslot_low a n g i w1 h h1)
  have C4 := Lib.hid yalive_any
  have C5 := Lib.hid (fun w1 => lgeom_ok a n g w1 h)
  have C6 := Lib.hid (fun w1 => lorigin_ok a n g w1 h)
  have C7 := Lib.hid (fun w1 => lstores_ok a n g w1 h)
  have C8 := Lib.hid (fun w1 => rlstores_ok a n g w1 h)
  obtain ⟨s, hs⟩ : ∃ s, s = 17 + n := ⟨_, rfl⟩
  obtain ⟨l, hl⟩ : ∃ l, l = a - (17 + n) := ⟨_, rfl⟩
  rw [← hl] at C7 C8
  rw [← hs] at C7 C8
  have d1 : decide (0 ≤ i) = false := by simp; omega
  have HX0 := Lib.hid (ux_alloc w a n g 23)
  have HB0 : Hid (Below w.heap.size w (w.alloc (.cells #[.int .i64 a, .int .i64 n, .int .i64 g] 23))) := (Below.refl _ w).alloc (Nat.le_refl _) _
  obtain ⟨_, a0, a1, a2⟩ := HX0.out
  clear h hs hl
  go_enter Try.func3, Try.ntmps3
  go_wp2_with fail
  refine (C1.out _).mono ?_
  rintro e w1 ⟨rfl, hb1⟩
  have hb1' := HB0.out.trans (hb1.mono HB0.out.size)
  have hn1 : Below w1.heap.size w1 (w1.alloc (.cells #[.int .i64 a, .int .i64 n, .int .i64 g] 25)) := (Below.refl _ _).alloc (Nat.le_refl _) _
  have HB1 := Lib.hid (hb1'.trans (hn1.mono hb1'.size))
  have HX1 := Lib.hid ((HX0.out.next hb1).next hn1)
  have HL1 := Lib.hid (ux_alloc w1 a n g 25)
  clear hb1 hb1' hn1 a0 a1 a2
  obtain ⟨_, a0, a1, a2⟩ := HX1.out
  obtain ⟨_, b0, b1, b2⟩ := HL1.out
  go_wp2_with fail
  refine (C2.out _).mono ?_
  rintro e w2 ⟨rfl, hb⟩
  have HB2 := Lib.hid (HB1.out.trans (hb.mono HB1.out.size))
  have HL2 := Lib.hid (HL1.out.next hb)
  have HX2 := Lib.hid (HX1.out.next hb)
  clear hb a0 a1 a2 b0 b1 b2
  obtain ⟨_, b0, b1, b2⟩ := HL2.out
  go_wp2_with fail
  refine (C3.out _).mono ?_
  rintro e w3 ⟨rfl, hb⟩
  have HB3 := Lib.hid (HB2.out.trans (hb.mono HB2.out.size))
  have HL3 := Lib.hid (HL2.out.next hb)
  have HX3 := Lib.hid (HX2.out.next hb)
  clear hb b0 b1 b2
  obtain ⟨ltx, a0, a1, a2⟩ := HX3.out
  obtain ⟨ltl, b0, b1, b2⟩ := HL3.out
  go_wp2_with fail
  go_region_held3 (fun w' => (w'.cell? ⟨w.heap.size, 0, none⟩ = some (.int .i64 a) ∧ w'.cell? ⟨w.heap.size, 1, none⟩ = some (.int .i64 n) ∧ w'.cell? ⟨w.heap.size, 2, none⟩ = some (.int .i64 g)) ∧ w'.cell? ⟨w1.heap.size, 0, none⟩ = some (.int .i64 a) ∧ w'.cell? ⟨w1.heap.size, 1, none⟩ = some (.int .i64 n) ∧ w'.cell? ⟨w1.heap.size, 2, none⟩ = some (.int .i64 g))
    (first | go_keep | (refine ⟨⟨?_, ?_, ?_⟩, ?_, ?_, ?_⟩ <;> assumption) | (exact ⟨⟨(BX.out.cell (p := ⟨w.heap.size, 0, none⟩) ltx).trans a0, (BX.out.cell (p := ⟨w.heap.size, 1, none⟩) ltx).trans a1, (BX.out.cell (p := ⟨w.heap.size, 2, none⟩) ltx).trans a2⟩, (BX.out.cell (p := ⟨w1.heap.size, 0, none⟩) ltl).trans b0, (BX.out.cell (p := ⟨w1.heap.size, 1, none⟩) ltl).trans b1, (BX.out.cell (p := ⟨w1.heap.size, 2, none⟩) ltl).trans b2⟩))
    (first | (go_at_call 8; refine (C4.out _).mono ?_; rintro e v1 ⟨rfl, hb⟩; have BX : Hid (Below w3.heap.size w3 v1) := (Below.refl _ _).drew.trans hb; clear hb) | (go_at_call 9; refine (C5.out _).mono ?_; rintro e v2 ⟨rfl, hb⟩; have BY := BX; have BX : Hid (Below w3.heap.size w3 v2) := BY.out.trans (hb.mono BY.out.size); clear hb BY) | (go_at_call 10; refine (C6.out _).mono ?_; rintro e v3 ⟨rfl, hb⟩; have BY := BX; have BX : Hid (Below w3.heap.size w3 v3) := BY.out.trans (hb.mono BY.out.size); clear hb BY) | (go_at_call 11; refine (C7.out _).mono ?_; rintro e v4 ⟨rfl, hb⟩; have BY := BX; have BX : Hid (Below w3.heap.size w3 v4) := BY.out.trans (hb.mono BY.out.size); clear hb BY) | (go_at_call 12; refine (C8.out _).mono ?_; rintro e v5 ⟨rfl, hb⟩; have BY := BX; have BX : Hid (Below w3.heap.size w3 v5) := BY.out.trans (hb.mono BY.out.size); clear hb BY))
  all_goals
    go_wp2
    go_ret
    exact ⟨rfl, HB3.out.trans (BX.out.mono HB3.out.size)⟩
set_option maxHeartbeats 2000000 in
theorem tells_high (a n g i : Int) (w : World) (h : Um.okU a n g = true) (h1 : 16 ≤ i) :
    Calls Try.prog 3 #[.agg #[.int .i64 a, .int .i64 n, .int .i64 g], .int .i64 i] w fun e w' => e = .returned (.bool true) ∧ Below w.heap.size w w' := by
  have C1 := Lib.hid (fun w1 => of_ok a n g w1 h)
  have C2 := Lib.hid (fun w1 => ruright_any a n g w1)
  rw [h] at C2
  unfold Uv at C2
  have C3 := Lib.hid (fun w1 => lslot_high a n g i w1 h h1)
  have C4 := Lib.hid yalive_any
  have C5 := Lib.hid (fun w1 => lgeom_ok a n g w1 h)
  have C6 := Lib.hid (fun w1 => lorigin_ok a n g w1 h)
  have C7 := Lib.hid (fun w1 => lstores_ok a n g w1 h)
  have C8 := Lib.hid (fun w1 => rlstores_ok a n g w1 h)
  obtain ⟨s, hs⟩ : ∃ s, s = 17 + n := ⟨_, rfl⟩
  obtain ⟨l, hl⟩ : ∃ l, l = a - (17 + n) := ⟨_, rfl⟩
  rw [← hl] at C7 C8
  rw [← hs] at C7 C8
  have d1 : decide (0 ≤ i) = true := by simp; omega
  have d2 : decide (i < 16) = false := by simp; omega
  have HX0 := Lib.hid (ux_alloc w a n g 23)
  have HB0 : Hid (Below w.heap.size w (w.alloc (.cells #[.int .i64 a, .int .i64 n, .int .i64 g] 23))) := (Below.refl _ w).alloc (Nat.le_refl _) _
  obtain ⟨_, a0, a1, a2⟩ := HX0.out
  clear h hs hl
  go_enter Try.func3, Try.ntmps3
  go_wp2_with fail
  refine (C1.out _).mono ?_
  rintro e w1 ⟨rfl, hb1⟩
  have hb1' := HB0.out.trans (hb1.mono HB0.out.size)
  have hn1 : Below w1.heap.size w1 (w1.alloc (.cells #[.int .i64 a, .int .i64 n, .int .i64 g] 25)) := (Below.refl _ _).alloc (Nat.le_refl _) _
  have HB1 := Lib.hid (hb1'.trans (hn1.mono hb1'.size))
  have HX1 := Lib.hid ((HX0.out.next hb1).next hn1)
  have HL1 := Lib.hid (ux_alloc w1 a n g 25)
  clear hb1 hb1' hn1 a0 a1 a2
  obtain ⟨_, a0, a1, a2⟩ := HX1.out
  obtain ⟨_, b0, b1, b2⟩ := HL1.out
  go_wp2_with fail
  refine (C2.out _).mono ?_
  rintro e w2 ⟨rfl, hb⟩
  have HB2 := Lib.hid (HB1.out.trans (hb.mono HB1.out.size))
  have HL2 := Lib.hid (HL1.out.next hb)
  have HX2 := Lib.hid (HX1.out.next hb)
  clear hb a0 a1 a2 b0 b1 b2
  obtain ⟨_, b0, b1, b2⟩ := HL2.out
  go_wp2_with fail
  refine (C3.out _).mono ?_
  rintro e w3 ⟨rfl, hb⟩
  have HB3 := Lib.hid (HB2.out.trans (hb.mono HB2.out.size))
  have HL3 := Lib.hid (HL2.out.next hb)
  have HX3 := Lib.hid (HX2.out.next hb)
  clear hb b0 b1 b2
  obtain ⟨ltx, a0, a1, a2⟩ := HX3.out
  obtain ⟨ltl, b0, b1, b2⟩ := HL3.out
  go_wp2_with fail
  go_region_held3 (fun w' => (w'.cell? ⟨w.heap.size, 0, none⟩ = some (.int .i64 a) ∧ w'.cell? ⟨w.heap.size, 1, none⟩ = some (.int .i64 n) ∧ w'.cell? ⟨w.heap.size, 2, none⟩ = some (.int .i64 g)) ∧ w'.cell? ⟨w1.heap.size, 0, none⟩ = some (.int .i64 a) ∧ w'.cell? ⟨w1.heap.size, 1, none⟩ = some (.int .i64 n) ∧ w'.cell? ⟨w1.heap.size, 2, none⟩ = some (.int .i64 g))
    (first | go_keep | (refine ⟨⟨?_, ?_, ?_⟩, ?_, ?_, ?_⟩ <;> assumption) | (exact ⟨⟨(BX.out.cell (p := ⟨w.heap.size, 0, none⟩) ltx).trans a0, (BX.out.cell (p := ⟨w.heap.size, 1, none⟩) ltx).trans a1, (BX.out.cell (p := ⟨w.heap.size, 2, none⟩) ltx).trans a2⟩, (BX.out.cell (p := ⟨w1.heap.size, 0, none⟩) ltl).trans b0, (BX.out.cell (p := ⟨w1.heap.size, 1, none⟩) ltl).trans b1, (BX.out.cell (p := ⟨w1.heap.size, 2, none⟩) ltl).trans b2⟩))
    (first | (go_at_call 8; refine (C4.out _).mono ?_; rintro e v1 ⟨rfl, hb⟩; have BX : Hid (Below w3.heap.size w3 v1) := (Below.refl _ _).drew.trans hb; clear hb) | (go_at_call 9; refine (C5.out _).mono ?_; rintro e v2 ⟨rfl, hb⟩; have BY := BX; have BX : Hid (Below w3.heap.size w3 v2) := BY.out.trans (hb.mono BY.out.size); clear hb BY) | (go_at_call 10; refine (C6.out _).mono ?_; rintro e v3 ⟨rfl, hb⟩; have BY := BX; have BX : Hid (Below w3.heap.size w3 v3) := BY.out.trans (hb.mono BY.out.size); clear hb BY) | (go_at_call 11; refine (C7.out _).mono ?_; rintro e v4 ⟨rfl, hb⟩; have BY := BX; have BX : Hid (Below w3.heap.size w3 v4) := BY.out.trans (hb.mono BY.out.size); clear hb BY) | (go_at_call 12; refine (C8.out _).mono ?_; rintro e v5 ⟨rfl, hb⟩; have BY := BX; have BX : Hid (Below w3.heap.size w3 v5) := BY.out.trans (hb.mono BY.out.size); clear hb BY))
  all_goals
    go_wp2
    go_ret
    exact ⟨rfl, HB3.out.trans (BX.out.mono HB3.out.size)⟩
set_option maxHeartbeats 2000000 in
theorem tells_in (a n g i : Int) (w : World) (h : Um.okU a n g = true) (h1 : 0 ≤ i) (h2 : i < 16) :
    Calls Try.prog 3 #[.agg #[.int .i64 a, .int .i64 n, .int .i64 g], .int .i64 i] w fun e w' => e = .returned (.bool true) ∧ Below w.heap.size w w' := by
  have C1 := Lib.hid (fun w1 => of_ok a n g w1 h)
  have C2 := Lib.hid (fun w1 => ruright_any a n g w1)
  rw [h] at C2
  unfold Uv at C2
  have C3 := Lib.hid (fun w1 => lslot_ok a n g i w1 h h1 h2)
  have C4 := Lib.hid yalive_any
  have C5 := Lib.hid (fun w1 => lgeom_ok a n g w1 h)
  have C6 := Lib.hid (fun w1 => lorigin_ok a n g w1 h)
  have C7 := Lib.hid (fun w1 => lstores_ok a n g w1 h)
  have C8 := Lib.hid (fun w1 => rlstores_ok a n g w1 h)
  obtain ⟨s, hs⟩ : ∃ s, s = 17 + n := ⟨_, rfl⟩
  obtain ⟨l, hl⟩ : ∃ l, l = a - (17 + n) := ⟨_, rfl⟩
  rw [← hl] at C7 C8
  rw [← hs] at C7 C8
  have d1 : decide (0 ≤ i) = true := by simp; omega
  have d2 : decide (i < 16) = true := by simp; omega
  have e1 : IntKind.i64.wrap (1 + i) = 1 + i := IntWalk.i64_in _ (by omega)
  have HX0 := Lib.hid (ux_alloc w a n g 23)
  have HB0 : Hid (Below w.heap.size w (w.alloc (.cells #[.int .i64 a, .int .i64 n, .int .i64 g] 23))) := (Below.refl _ w).alloc (Nat.le_refl _) _
  obtain ⟨_, a0, a1, a2⟩ := HX0.out
  clear h hs hl
  go_enter Try.func3, Try.ntmps3
  go_wp2_with fail
  refine (C1.out _).mono ?_
  rintro e w1 ⟨rfl, hb1⟩
  have hb1' := HB0.out.trans (hb1.mono HB0.out.size)
  have hn1 : Below w1.heap.size w1 (w1.alloc (.cells #[.int .i64 a, .int .i64 n, .int .i64 g] 25)) := (Below.refl _ _).alloc (Nat.le_refl _) _
  have HB1 := Lib.hid (hb1'.trans (hn1.mono hb1'.size))
  have HX1 := Lib.hid ((HX0.out.next hb1).next hn1)
  have HL1 := Lib.hid (ux_alloc w1 a n g 25)
  clear hb1 hb1' hn1 a0 a1 a2
  obtain ⟨_, a0, a1, a2⟩ := HX1.out
  obtain ⟨_, b0, b1, b2⟩ := HL1.out
  go_wp2_with fail
  refine (C2.out _).mono ?_
  rintro e w2 ⟨rfl, hb⟩
  have HB2 := Lib.hid (HB1.out.trans (hb.mono HB1.out.size))
  have HL2 := Lib.hid (HL1.out.next hb)
  have HX2 := Lib.hid (HX1.out.next hb)
  clear hb a0 a1 a2 b0 b1 b2
  obtain ⟨_, b0, b1, b2⟩ := HL2.out
  go_wp2_with fail
  refine (C3.out _).mono ?_
  rintro e w3 ⟨rfl, hb⟩
  have HB3 := Lib.hid (HB2.out.trans (hb.mono HB2.out.size))
  have HL3 := Lib.hid (HL2.out.next hb)
  have HX3 := Lib.hid (HX2.out.next hb)
  clear hb b0 b1 b2
  obtain ⟨ltx, a0, a1, a2⟩ := HX3.out
  obtain ⟨ltl, b0, b1, b2⟩ := HL3.out
  go_wp2_with fail
  go_region_held3 (fun w' => (w'.cell? ⟨w.heap.size, 0, none⟩ = some (.int .i64 a) ∧ w'.cell? ⟨w.heap.size, 1, none⟩ = some (.int .i64 n) ∧ w'.cell? ⟨w.heap.size, 2, none⟩ = some (.int .i64 g)) ∧ w'.cell? ⟨w1.heap.size, 0, none⟩ = some (.int .i64 a) ∧ w'.cell? ⟨w1.heap.size, 1, none⟩ = some (.int .i64 n) ∧ w'.cell? ⟨w1.heap.size, 2, none⟩ = some (.int .i64 g))
    (first | go_keep | (refine ⟨⟨?_, ?_, ?_⟩, ?_, ?_, ?_⟩ <;> assumption) | (exact ⟨⟨(BX.out.cell (p := ⟨w.heap.size, 0, none⟩) ltx).trans a0, (BX.out.cell (p := ⟨w.heap.size, 1, none⟩) ltx).trans a1, (BX.out.cell (p := ⟨w.heap.size, 2, none⟩) ltx).trans a2⟩, (BX.out.cell (p := ⟨w1.heap.size, 0, none⟩) ltl).trans b0, (BX.out.cell (p := ⟨w1.heap.size, 1, none⟩) ltl).trans b1, (BX.out.cell (p := ⟨w1.heap.size, 2, none⟩) ltl).trans b2⟩))
    (first | (go_at_call 8; refine (C4.out _).mono ?_; rintro e v1 ⟨rfl, hb⟩; have BX : Hid (Below w3.heap.size w3 v1) := (Below.refl _ _).drew.trans hb; clear hb) | (go_at_call 9; refine (C5.out _).mono ?_; rintro e v2 ⟨rfl, hb⟩; have BY := BX; have BX : Hid (Below w3.heap.size w3 v2) := BY.out.trans (hb.mono BY.out.size); clear hb BY) | (go_at_call 10; refine (C6.out _).mono ?_; rintro e v3 ⟨rfl, hb⟩; have BY := BX; have BX : Hid (Below w3.heap.size w3 v3) := BY.out.trans (hb.mono BY.out.size); clear hb BY) | (go_at_call 11; refine (C7.out _).mono ?_; rintro e v4 ⟨rfl, hb⟩; have BY := BX; have BX : Hid (Below w3.heap.size w3 v4) := BY.out.trans (hb.mono BY.out.size); clear hb BY) | (go_at_call 12; refine (C8.out _).mono ?_; rintro e v5 ⟨rfl, hb⟩; have BY := BX; have BX : Hid (Below w3.heap.size w3 v5) := BY.out.trans (hb.mono BY.out.size); clear hb BY))
  all_goals
    go_wp2
    go_ret
    exact ⟨rfl, HB3.out.trans (BX.out.mono HB3.out.size)⟩
theorem tells_any (a n g i : Int) (w : World) :
    Calls Try.prog 3 #[.agg #[.int .i64 a, .int .i64 n, .int .i64 g], .int .i64 i] w fun e w' => e = .returned (.bool true) ∧ Below w.heap.size w w' := by
  cases h : Um.okU a n g with
  | false => exact tells_wrong a n g i w h
  | true =>
    by_cases h1 : i < 0
    · exact tells_low a n g i w h h1
    · by_cases h2 : i < 16
      · exact tells_in a n g i w h (by omega) h2
      · exact tells_high a n g i w h (by omega)
end Go.Proofs.Ytilfipebmgmmeaa
