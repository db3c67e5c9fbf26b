/- The live question of geom's laws. -/
import Derived.Test.YtkjlcjiegoillaaGeomSplit
namespace Go.Proofs.Ytkjlcjiegoillaa
namespace Geo
open Go.RowKit
set_option linter.unusedVariables false

/-- A row of pieces: where it lies, and its cells. -/
theorem row_cells {w : World} {base : Nat} {v : Value} {l : List Em.Pc} (h : w.ownsRow base 43 3 v l.length (pcells l)) (hl : l ≠ []) : ∃ g c, v = .slice (some ⟨g, 0, none⟩) l.length c ∧ base ≤ g ∧ g < w.heap.size ∧
    ∀ i (hi : i < l.length), w.cell? ⟨g, 3 * i, none⟩ = some (.int .i64 (l[i].c : Int)) ∧ w.cell? ⟨g, 3 * i + 1, none⟩ = some (.int .i64 (l[i].f : Int)) ∧ w.cell? ⟨g, 3 * i + 2, none⟩ = some (.int .i64 (l[i].n : Int)) := by
  rcases h.2 with ⟨_, h0⟩ | ⟨g, cap, cur, rfl, hg, hh, h1, h2, h3, h4⟩
  · exact (hl (List.length_eq_zero_iff.1 h0)).elim
  · refine ⟨g, cap, rfl, hg, (Array.getElem?_eq_some_iff.1 hh).1, fun i hi => ?_⟩
    have hp := pcells_length l
    have get : ∀ j x, (pcells l)[j]? = some x → w.cell? ⟨g, j, none⟩ = some x := fun j x hj => by
      rw [cell_of_row _ _ _ _ _ _ hh]
      have hjl := (List.getElem?_eq_some_iff.1 hj).1
      have hj2 := hj
      rw [← h4, List.getElem?_take, if_pos (by omega)] at hj2
      simpa using hj2
    obtain ⟨a, b, c⟩ := pcells_get l i hi
    exact ⟨get _ _ a, get _ _ b, get _ _ c⟩

set_option maxRecDepth 100000 in
set_option maxHeartbeats 1000000 in
theorem alive_any (w : World) : Calls Try.prog 6 #[] w fun e w' => e = .returned (.bool true) ∧ Below w.heap.size w w' := by
  have hr : Em.rightB (10 : Nat) (4 : Nat) = true := by decide
  have C1 := Lib.hid (fun w1 => split_ok 10 4 3 6 w1 hr (by decide))
  have C2 : Hid (∀ w1 : World, Calls Try.prog 7 #[.agg #[.int .i64 10, .int .i64 4], .int .i64 2] w1 fun e w' => e = .returned (.tuple #[.agg #[.int .i64 8, .int .i64 2], .int .i64 0]) ∧ Below w1.heap.size w1 w') := fun w1 => span_ok 10 4 2 w1 hr (by decide)
  have C3 : Hid (∀ w1 : World, Calls Try.prog 16 #[.agg #[.int .i64 10, .int .i64 4], .int .i64 14] w1 fun e w' => e = .returned (.tuple #[.int .i64 59, .int .i64 0]) ∧ Below w1.heap.size w1 w') := fun w1 => size_ok 10 4 14 w1 hr (by decide) (by decide)
  have C4 : Hid (∀ w1 : World, Calls Try.prog 17 #[.agg #[.int .i64 10, .int .i64 4], .int .i64 58] w1 fun e w' => e = .returned (.tuple #[.int .i64 13, .int .i64 0]) ∧ Below w1.heap.size w1 w') := fun w1 => room_ok 10 4 58 w1 hr (by decide)
  have C5 : Hid (∀ w1 : World, Calls Try.prog 14 #[.agg #[.int .i64 10, .int .i64 4]] w1 fun e w' => e = .returned (.int .i64 3) ∧ Below w1.heap.size w1 w') := fun w1 => chunks_ok 10 4 w1 hr
  have HB : Hid (Below w.heap.size w (w.alloc (.cells #[.int .i64 10, .int .i64 4] 23))) := (Below.refl _ w).alloc (Nat.le_refl _) _
  have hg0 := cell_alloc2 w 10 4
  clear hr
  go_enter Try.func6, Try.ntmps6
  go_wp2_with fail
  refine (C1.out _).mono ?_
  rintro e w1 ⟨v, rfl, hrow, hb⟩
  have hs0 : w.heap.size < (w.alloc (.cells #[.int .i64 10, .int .i64 4] 23)).heap.size := by simp
  have c0 := (hb.cell (p := ⟨w.heap.size, 0, none⟩) hs0).trans hg0.1
  have c1 := (hb.cell (p := ⟨w.heap.size, 1, none⟩) hs0).trans hg0.2
  have hs1 := Nat.lt_of_lt_of_le hs0 hb.size
  have HB1 := Lib.hid (HB.out.trans (hb.mono HB.out.size))
  have es : Em.split 4 3 6 = [⟨0, 3, 1⟩, ⟨1, 0, 4⟩, ⟨2, 0, 1⟩] := rfl
  rw [es] at hrow
  obtain ⟨g, cap, rfl, hg1, hg2, hcs⟩ := row_cells hrow (by simp)
  obtain ⟨r0, r1, r2⟩ : w1.cell? ⟨g, 3, none⟩ = some (.int .i64 1) ∧ w1.cell? ⟨g, 4, none⟩ = some (.int .i64 0) ∧ w1.cell? ⟨g, 5, none⟩ = some (.int .i64 4) := hcs 1 (by decide)
  clear hb hg0 hs0 hcs hrow es
  go_wp2_with fail
  refine (C2.out _).mono ?_
  rintro e w2 ⟨rfl, hb⟩
  replace c0 := (hb.cell (p := ⟨w.heap.size, 0, none⟩) hs1).trans c0
  replace c1 := (hb.cell (p := ⟨w.heap.size, 1, none⟩) hs1).trans c1
  replace r0 := (hb.cell (p := ⟨g, 3, none⟩) hg2).trans r0
  replace r1 := (hb.cell (p := ⟨g, 4, none⟩) hg2).trans r1
  replace r2 := (hb.cell (p := ⟨g, 5, none⟩) hg2).trans r2
  replace hs1 := Nat.lt_of_lt_of_le hs1 hb.size
  replace hg2 := Nat.lt_of_lt_of_le hg2 hb.size
  replace HB1 := Lib.hid (HB1.out.trans (hb.mono HB1.out.size))
  clear hb
  go_wp2_with fail
  refine (C3.out _).mono ?_
  rintro e w3 ⟨rfl, hb0⟩
  have hx : w3.heap[w2.heap.size]? = some (.cells #[.int .i64 8, .int .i64 2] 25 (0, 0)) := (hb0.block _ (by simp)).trans (heap_alloc_new _ _)
  have hb : Below w2.heap.size w2 w3 := ((Below.refl _ w2).alloc (Nat.le_refl _) _).trans (hb0.mono (by simp))
  have x1 : w3.cell? ⟨w2.heap.size, 1, none⟩ = some (.int .i64 2) := by rw [cell_of_row _ _ _ _ _ _ hx]; rfl
  have hx2 := (Array.getElem?_eq_some_iff.1 hx).1
  replace c0 := (hb.cell (p := ⟨w.heap.size, 0, none⟩) hs1).trans c0
  replace c1 := (hb.cell (p := ⟨w.heap.size, 1, none⟩) hs1).trans c1
  replace r0 := (hb.cell (p := ⟨g, 3, none⟩) hg2).trans r0
  replace r1 := (hb.cell (p := ⟨g, 4, none⟩) hg2).trans r1
  replace r2 := (hb.cell (p := ⟨g, 5, none⟩) hg2).trans r2
  replace hs1 := Nat.lt_of_lt_of_le hs1 hb.size
  replace hg2 := Nat.lt_of_lt_of_le hg2 hb.size
  replace HB1 := Lib.hid (HB1.out.trans (hb.mono HB1.out.size))
  clear hb hb0 hx
  go_wp2_with fail
  refine (C4.out _).mono ?_
  rintro e w4 ⟨rfl, hb⟩
  replace c0 := (hb.cell (p := ⟨w.heap.size, 0, none⟩) hs1).trans c0
  replace c1 := (hb.cell (p := ⟨w.heap.size, 1, none⟩) hs1).trans c1
  replace r0 := (hb.cell (p := ⟨g, 3, none⟩) hg2).trans r0
  replace r1 := (hb.cell (p := ⟨g, 4, none⟩) hg2).trans r1
  replace r2 := (hb.cell (p := ⟨g, 5, none⟩) hg2).trans r2
  replace x1 := (hb.cell (p := ⟨w2.heap.size, 1, none⟩) hx2).trans x1
  replace HB1 := Lib.hid (HB1.out.trans (hb.mono HB1.out.size))
  clear hb hs1 hg2 hx2
  go_wp2_with fail
  refine (C5.out _).mono ?_
  rintro e w5 ⟨rfl, hb⟩
  replace HB1 := Lib.hid (HB1.out.trans (hb.mono HB1.out.size))
  clear hb
  go_wp2_with fail
  go_ret
  exact ⟨rfl, HB1.out⟩
end Geo
end Go.Proofs.Ytkjlcjiegoillaa
