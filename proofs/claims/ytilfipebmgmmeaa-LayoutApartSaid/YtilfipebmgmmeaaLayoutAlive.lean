/- The live question of layer 10. -/
import Derived.Test.YtilfipebmgmmeaaLayoutChunk
namespace Go.Proofs.Ytilfipebmgmmeaa
open Go.RowKit
set_option maxRecDepth 100000
set_option linter.unusedVariables false

theorem ylive_of (w : World) : Calls Try.prog 5 #[.agg #[.int .i64 300, .int .i64 40, .int .i64 4]] w fun e w' => e = .returned (.tuple #[.agg #[.int .i64 300, .int .i64 40, .int .i64 4], .int .i64 0]) ∧ Below w.heap.size w w' := of_ok 300 40 4 w (by decide)
theorem ylive_slot (w : World) : Calls Try.prog 7 #[.agg #[.int .i64 300, .int .i64 40, .int .i64 4], .int .i64 2] w fun e w' => e = .returned (.tuple #[.int .i64 3, .int .i64 0]) ∧ Below w.heap.size w w' := lslot_ok 300 40 4 2 w (by decide) (by decide) (by decide)
theorem ylive_room : RoomIs 300 40 4 60 70 (16 : Nat) 0 := fun w => lroom_ok 300 40 4 60 70 w (by decide) (by decide) (by decide)
theorem ylive_page (w : World) : Calls Try.prog 13 #[.agg #[.int .i64 300, .int .i64 40, .int .i64 4], .agg #[.int .i64 60, .int .i64 70], .int .i64 1] w fun e w' => e = .returned (.tuple #[.int .i64 62, .int .i64 0]) ∧ Below w.heap.size w w' := lpage_ok 300 40 4 60 70 1 16 w (by decide) ylive_room (by decide) (by decide) (by decide) (by decide) (by decide)
theorem ylive_chunk (w : World) : Calls Try.prog 14 #[.agg #[.int .i64 300, .int .i64 40, .int .i64 4], .agg #[.int .i64 60, .int .i64 70], .int .i64 1] w fun e w' => e = .returned (.tuple #[.agg #[.int .i64 67, .int .i64 4], .int .i64 0]) ∧ Below w.heap.size w w' := lchunk_ok 300 40 4 60 70 1 16 w (by decide) ylive_room (by decide) (by decide) (by decide) (by decide) (by decide)
theorem ylive_out (w : World) : Calls Try.prog 18 #[.agg #[.int .i64 300, .int .i64 40, .int .i64 4], .agg #[.int .i64 56, .int .i64 70]] w fun e w' => e = .returned (.tuple #[.int .i64 0, .int .i64 2]) ∧ Below w.heap.size w w' := lroom_out 300 40 4 56 70 w (by decide) (by decide) (by decide)
theorem ylive_origin (w : World) : Calls Try.prog 10 #[.agg #[.int .i64 300, .int .i64 40, .int .i64 4]] w fun e w' => e = .returned (.agg #[.int .i64 17, .int .i64 40]) ∧ Below w.heap.size w w' := lorigin_ok 300 40 4 w (by decide)
theorem ylive_stores (w : World) : Calls Try.prog 11 #[.agg #[.int .i64 300, .int .i64 40, .int .i64 4]] w fun e w' => e = .returned (.agg #[.int .i64 57, .int .i64 243]) ∧ Below w.heap.size w w' := lstores_ok 300 40 4 w (by decide)

theorem yalive_any (w : World) : Calls Try.prog 8 #[] w fun e w' => e = .returned (.bool true) ∧ Below w.heap.size w w' := by
  have C1 := Lib.hid ylive_of
  have C2 := Lib.hid ylive_slot
  have C3 := Lib.hid ylive_page
  have C4 := Lib.hid ylive_chunk
  have C5 := Lib.hid ylive_out
  have C6 := Lib.hid ylive_origin
  have C7 := Lib.hid ylive_stores
  go_enter Try.func8, Try.ntmps8
  go_wp2_with fail
  refine (C1.out _).mono ?_
  rintro e w1 ⟨rfl, hb1⟩
  have hn1 : Below w1.heap.size w1 (w1.alloc (.cells #[.int .i64 300, .int .i64 40, .int .i64 4] 25)) := (Below.refl _ _).alloc (Nat.le_refl _) _
  have HB1 := Lib.hid (hb1.trans (hn1.mono hb1.size))
  have HX1 := Lib.hid (ux_alloc w1 300 40 4 25)
  obtain ⟨_, a0, a1, a2⟩ := HX1.out
  clear hb1 hn1
  go_wp2_with fail
  refine (C2.out _).mono ?_
  rintro e w2 ⟨rfl, hb2⟩
  have HB2 := Lib.hid (HB1.out.trans (hb2.mono HB1.out.size))
  have HX2 := Lib.hid (HX1.out.next hb2)
  clear hb2 a0 a1 a2
  obtain ⟨_, a0, a1, a2⟩ := HX2.out
  go_wp2_with fail
  refine (C3.out _).mono ?_
  rintro e w3 ⟨rfl, hb3⟩
  have HB3 := Lib.hid (HB2.out.trans (hb3.mono HB2.out.size))
  have HX3 := Lib.hid (HX2.out.next hb3)
  clear hb3 a0 a1 a2
  obtain ⟨_, a0, a1, a2⟩ := HX3.out
  go_wp2_with fail
  refine (C4.out _).mono ?_
  rintro e w4 ⟨rfl, hb4⟩
  have hb4' := HB3.out.trans (hb4.mono HB3.out.size)
  have HX4' := HX3.out.next hb4
  have hn4 : Below w4.heap.size w4 (w4.alloc (.cells #[.int .i64 67, .int .i64 4] 37)) := (Below.refl _ _).alloc (Nat.le_refl _) _
  have HB4 := Lib.hid (hb4'.trans (hn4.mono hb4'.size))
  have HX4 := Lib.hid (HX4'.next hn4)
  have HC4 := Lib.hid (heap_alloc_new w4 (.cells #[.int .i64 67, .int .i64 4] 37))
  have HL4 : Hid (w4.heap.size < (w4.alloc (.cells #[.int .i64 67, .int .i64 4] 37)).heap.size) := by show _ < _; simp
  clear hb4 hb4' hn4 a0 a1 a2 HX4'
  obtain ⟨_, a0, a1, a2⟩ := HX4.out
  go_wp2_with fail
  refine (C5.out _).mono ?_
  rintro e w5 ⟨rfl, hb5⟩
  have HB5 := Lib.hid (HB4.out.trans (hb5.mono HB4.out.size))
  have HX5 := Lib.hid (HX4.out.next hb5)
  have HC5 := Lib.hid ((hb5.block w4.heap.size HL4.out).trans HC4.out)
  have HL5 := Lib.hid (Nat.lt_of_lt_of_le HL4.out hb5.size)
  clear hb5 a0 a1 a2
  obtain ⟨_, a0, a1, a2⟩ := HX5.out
  go_wp2_with fail
  refine (C6.out _).mono ?_
  rintro e w6 ⟨rfl, hb6⟩
  have HB6 := Lib.hid (HB5.out.trans (hb6.mono HB5.out.size))
  have HX6 := Lib.hid (HX5.out.next hb6)
  have HC6 := Lib.hid ((hb6.block w4.heap.size HL5.out).trans HC5.out)
  have HL6 := Lib.hid (Nat.lt_of_lt_of_le HL5.out hb6.size)
  clear hb6 a0 a1 a2
  obtain ⟨_, a0, a1, a2⟩ := HX6.out
  go_wp2_with fail
  refine (C7.out _).mono ?_
  rintro e w7 ⟨rfl, hb7⟩
  have HB7 := Lib.hid (HB6.out.trans (hb7.mono HB6.out.size))
  obtain ⟨z0, z1, _⟩ := duo_cells ((hb7.block w4.heap.size HL6.out).trans HC6.out)
  clear hb7 a0 a1 a2
  go_wp2
  go_ret
  exact ⟨rfl, HB7.out⟩
end Go.Proofs.Ytilfipebmgmmeaa
