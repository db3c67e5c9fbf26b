/- Contracts of layout's Geom, Origin, Stores and Slot. (Made by wip/tools/gen_layoutget.py.) -/
import Derived.Test.YtilfipebmgmmeaaLayoutCode
namespace Go.Proofs.Ytilfipebmgmmeaa
open Go.RowKit
set_option maxRecDepth 100000
set_option linter.unusedVariables false

theorem duo_cells {W : World} {g : Nat} {x y : Value} {t : TypeId} (h : W.heap[g]? = some (.cells #[x, y] t (0, 0))) :
    W.cell? ⟨g, 0, none⟩ = some x ∧ W.cell? ⟨g, 1, none⟩ = some y ∧ ∀ j, W.frozen? ⟨g, j, none⟩ = false :=
  ⟨by rw [cell_of_row _ _ _ _ _ _ h]; rfl, by rw [cell_of_row _ _ _ _ _ _ h]; rfl, fun j => frozen_of_row (j := j) _ _ _ _ h⟩
theorem duo_set {w : World} {g : Nat} {a b : Value} {t : TypeId} (h : w.heap[g]? = some (.cells #[a, b] t (0, 0))) (x y : Value) : ((w.setCell ⟨g, 0, none⟩ x).setCell ⟨g, 1, none⟩ y).heap[g]? = some (.cells #[x, y] t (0, 0)) := by
  rw [heap_setCell_same _ _ _ _ _ _ (heap_setCell_same _ _ _ _ _ _ h)]
  rfl
theorem below_duo {B : Nat} {a w : World} {g : Nat} (h : Below B a w) (hg : B ≤ g) (x y : Value) : Below B a ((w.setCell ⟨g, 0, none⟩ x).setCell ⟨g, 1, none⟩ y) :=
  (h.setCell (p := ⟨g, 0, none⟩) hg x).setCell (p := ⟨g, 1, none⟩) hg y
theorem duo_made (w : World) (a n g : Int) (ty : TypeId) (W0 : World) (h : (w.alloc (.cells #[.int .i64 a, .int .i64 n, .int .i64 g] 25)).alloc (.cells #[.int .i64 0, .int .i64 0] ty) = W0) :
    Below w.heap.size w W0 ∧ Ux W0 w.heap.size a n g ∧ W0.heap[w.heap.size + 1]? = some (.cells #[.int .i64 0, .int .i64 0] ty (0, 0)) ∧ W0.heap.size = w.heap.size + 2 := by
  subst h
  have h1 := ux_alloc w a n g 25
  have h2 := heap_alloc_new (w.alloc (.cells #[.int .i64 a, .int .i64 n, .int .i64 g] 25)) (.cells #[.int .i64 0, .int .i64 0] ty)
  have hs : (w.alloc (.cells #[.int .i64 a, .int .i64 n, .int .i64 g] 25)).heap.size = w.heap.size + 1 := by simp
  rw [hs] at h2
  exact ⟨((Below.refl _ w).alloc (Nat.le_refl _) _).alloc (by simp) _, h1.next ((Below.refl _ _).alloc (Nat.le_refl _) _), h2, by simp⟩
theorem geom_info : (Try.prog.info? 34).map (·.size) = some (#[.int .i64 0, .int .i64 0] : Array Value).size := by kernel_rfl
theorem extent_info : (Try.prog.info? 37).map (·.size) = some (#[.int .i64 0, .int .i64 0] : Array Value).size := by kernel_rfl

theorem lgeom_ok (a n g : Int) (w : World) (h : Um.okU a n g = true) : Calls Try.prog 9 #[.agg #[.int .i64 a, .int .i64 n, .int .i64 g]] w fun e w' => e = .returned (.agg #[.int .i64 (n), .int .i64 (g)]) ∧ Below w.heap.size w w' := by
  have R := Lib.hid (fun w1 => told_any a n g w1)
  rw [h] at R
  obtain ⟨h1, h2, h3, h4, h5, h6⟩ := Um.okU_small h
  clear h1 h2 h3 h4 h5 h6
  obtain ⟨W0, hW0⟩ : ∃ W0, (w.alloc (.cells #[.int .i64 a, .int .i64 n, .int .i64 g] 25)).alloc (.cells #[.int .i64 0, .int .i64 0] 34) = W0 := ⟨_, rfl⟩
  obtain ⟨hB, hx, hr, hsz⟩ := duo_made w a n g 34 W0 hW0
  have HB := Lib.hid hB
  have HX := Lib.hid hx
  have HR := Lib.hid hr
  have SZ := Lib.hid hsz
  obtain ⟨_, a0, a1, a2⟩ := hx
  clear hB hr hsz h
  go_enter Try.func9, Try.ntmps9
  go_wp2_with fail
  clear hW0 a0 a1 a2
  refine (R.out _).mono ?_
  rintro e w1 ⟨rfl, hb⟩
  have hr1 := (hb.block (w.heap.size + 1) (by rw [SZ.out]; omega)).trans HR.out
  have HB1 := Lib.hid (HB.out.trans (hb.mono HB.out.size))
  have R1 := Lib.hid hr1
  obtain ⟨_, a0, a1, a2⟩ := HX.out.next hb
  obtain ⟨z0, z1, zf⟩ := duo_cells hr1
  clear hb hr1
  go_wp2_with fail
  refine bodyPost_ret (results_cell_row (p := 2) (ty := 34) rfl _ _ (w.heap.size + 1) 34 _ (0, 0) _ rfl (duo_set R1.out _ _) Try.underlying34 rfl geom_info) rfl ⟨rfl, ?_⟩
  exact below_duo HB1.out (by omega) _ _
theorem lgeom_no (a n g : Int) (w : World) (h : Um.okU a n g = false) : Calls Try.prog 9 #[.agg #[.int .i64 a, .int .i64 n, .int .i64 g]] w fun e w' => e = .returned (.agg #[.int .i64 (0), .int .i64 (0)]) ∧ Below w.heap.size w w' := by
  have R := Lib.hid (fun w1 => told_any a n g w1)
  rw [h] at R
  obtain ⟨W0, hW0⟩ : ∃ W0, (w.alloc (.cells #[.int .i64 a, .int .i64 n, .int .i64 g] 25)).alloc (.cells #[.int .i64 0, .int .i64 0] 34) = W0 := ⟨_, rfl⟩
  obtain ⟨hB, hx, hr, hsz⟩ := duo_made w a n g 34 W0 hW0
  have HB := Lib.hid hB
  have HX := Lib.hid hx
  have HR := Lib.hid hr
  have SZ := Lib.hid hsz
  obtain ⟨_, a0, a1, a2⟩ := hx
  clear hB hr hsz h
  go_enter Try.func9, Try.ntmps9
  go_wp2_with fail
  clear hW0 a0 a1 a2
  refine (R.out _).mono ?_
  rintro e w1 ⟨rfl, hb⟩
  have hr1 := (hb.block (w.heap.size + 1) (by rw [SZ.out]; omega)).trans HR.out
  have HB1 := Lib.hid (HB.out.trans (hb.mono HB.out.size))
  have R1 := Lib.hid hr1
  obtain ⟨_, a0, a1, a2⟩ := HX.out.next hb
  obtain ⟨z0, z1, zf⟩ := duo_cells hr1
  clear hb hr1
  go_wp2_with fail
  refine bodyPost_ret (results_cell_row (p := 2) (ty := 34) rfl _ _ (w.heap.size + 1) 34 _ (0, 0) _ rfl (duo_set R1.out _ _) Try.underlying34 rfl geom_info) rfl ⟨rfl, ?_⟩
  exact below_duo HB1.out (by omega) _ _
theorem lorigin_ok (a n g : Int) (w : World) (h : Um.okU a n g = true) : Calls Try.prog 10 #[.agg #[.int .i64 a, .int .i64 n, .int .i64 g]] w fun e w' => e = .returned (.agg #[.int .i64 (17), .int .i64 (n)]) ∧ Below w.heap.size w w' := by
  have R := Lib.hid (fun w1 => told_any a n g w1)
  rw [h] at R
  obtain ⟨h1, h2, h3, h4, h5, h6⟩ := Um.okU_small h
  clear h1 h2 h3 h4 h5 h6
  obtain ⟨W0, hW0⟩ : ∃ W0, (w.alloc (.cells #[.int .i64 a, .int .i64 n, .int .i64 g] 25)).alloc (.cells #[.int .i64 0, .int .i64 0] 37) = W0 := ⟨_, rfl⟩
  obtain ⟨hB, hx, hr, hsz⟩ := duo_made w a n g 37 W0 hW0
  have HB := Lib.hid hB
  have HX := Lib.hid hx
  have HR := Lib.hid hr
  have SZ := Lib.hid hsz
  obtain ⟨_, a0, a1, a2⟩ := hx
  clear hB hr hsz h
  go_enter Try.func10, Try.ntmps10
  go_wp2_with fail
  clear hW0 a0 a1 a2
  refine (R.out _).mono ?_
  rintro e w1 ⟨rfl, hb⟩
  have hr1 := (hb.block (w.heap.size + 1) (by rw [SZ.out]; omega)).trans HR.out
  have HB1 := Lib.hid (HB.out.trans (hb.mono HB.out.size))
  have R1 := Lib.hid hr1
  obtain ⟨_, a0, a1, a2⟩ := HX.out.next hb
  obtain ⟨z0, z1, zf⟩ := duo_cells hr1
  clear hb hr1
  go_wp2_with fail
  refine bodyPost_ret (results_cell_row (p := 2) (ty := 37) rfl _ _ (w.heap.size + 1) 37 _ (0, 0) _ rfl (duo_set R1.out _ _) Try.underlying37 rfl extent_info) rfl ⟨rfl, ?_⟩
  exact below_duo HB1.out (by omega) _ _
theorem lorigin_no (a n g : Int) (w : World) (h : Um.okU a n g = false) : Calls Try.prog 10 #[.agg #[.int .i64 a, .int .i64 n, .int .i64 g]] w fun e w' => e = .returned (.agg #[.int .i64 (0), .int .i64 (0)]) ∧ Below w.heap.size w w' := by
  have R := Lib.hid (fun w1 => told_any a n g w1)
  rw [h] at R
  obtain ⟨W0, hW0⟩ : ∃ W0, (w.alloc (.cells #[.int .i64 a, .int .i64 n, .int .i64 g] 25)).alloc (.cells #[.int .i64 0, .int .i64 0] 37) = W0 := ⟨_, rfl⟩
  obtain ⟨hB, hx, hr, hsz⟩ := duo_made w a n g 37 W0 hW0
  have HB := Lib.hid hB
  have HX := Lib.hid hx
  have HR := Lib.hid hr
  have SZ := Lib.hid hsz
  obtain ⟨_, a0, a1, a2⟩ := hx
  clear hB hr hsz h
  go_enter Try.func10, Try.ntmps10
  go_wp2_with fail
  clear hW0 a0 a1 a2
  refine (R.out _).mono ?_
  rintro e w1 ⟨rfl, hb⟩
  have hr1 := (hb.block (w.heap.size + 1) (by rw [SZ.out]; omega)).trans HR.out
  have HB1 := Lib.hid (HB.out.trans (hb.mono HB.out.size))
  have R1 := Lib.hid hr1
  obtain ⟨_, a0, a1, a2⟩ := HX.out.next hb
  obtain ⟨z0, z1, zf⟩ := duo_cells hr1
  clear hb hr1
  go_wp2_with fail
  refine bodyPost_ret (results_cell_row (p := 2) (ty := 37) rfl _ _ (w.heap.size + 1) 37 _ (0, 0) _ rfl (duo_set R1.out _ _) Try.underlying37 rfl extent_info) rfl ⟨rfl, ?_⟩
  exact below_duo HB1.out (by omega) _ _
theorem lstores_ok (a n g : Int) (w : World) (h : Um.okU a n g = true) : Calls Try.prog 11 #[.agg #[.int .i64 a, .int .i64 n, .int .i64 g]] w fun e w' => e = .returned (.agg #[.int .i64 (17 + n), .int .i64 (a - (17 + n))]) ∧ Below w.heap.size w w' := by
  have R := Lib.hid (fun w1 => told_any a n g w1)
  rw [h] at R
  obtain ⟨h1, h2, h3, h4, h5, h6⟩ := Um.okU_small h
  have e1 : IntKind.i64.wrap (17 + n) = 17 + n := IntWalk.i64_in _ (by omega)
  have e2 : IntKind.i64.wrap (a - (17 + n)) = a - (17 + n) := IntWalk.i64_in _ (by omega)
  clear h1 h2 h3 h4 h5 h6
  obtain ⟨W0, hW0⟩ : ∃ W0, (w.alloc (.cells #[.int .i64 a, .int .i64 n, .int .i64 g] 25)).alloc (.cells #[.int .i64 0, .int .i64 0] 37) = W0 := ⟨_, rfl⟩
  obtain ⟨hB, hx, hr, hsz⟩ := duo_made w a n g 37 W0 hW0
  have HB := Lib.hid hB
  have HX := Lib.hid hx
  have HR := Lib.hid hr
  have SZ := Lib.hid hsz
  obtain ⟨_, a0, a1, a2⟩ := hx
  clear hB hr hsz h
  go_enter Try.func11, Try.ntmps11
  go_wp2_with fail
  clear hW0 a0 a1 a2
  refine (R.out _).mono ?_
  rintro e w1 ⟨rfl, hb⟩
  have hr1 := (hb.block (w.heap.size + 1) (by rw [SZ.out]; omega)).trans HR.out
  have HB1 := Lib.hid (HB.out.trans (hb.mono HB.out.size))
  have R1 := Lib.hid hr1
  obtain ⟨_, a0, a1, a2⟩ := HX.out.next hb
  obtain ⟨z0, z1, zf⟩ := duo_cells hr1
  clear hb hr1
  go_wp2_with fail
  refine bodyPost_ret (results_cell_row (p := 2) (ty := 37) rfl _ _ (w.heap.size + 1) 37 _ (0, 0) _ rfl (duo_set R1.out _ _) Try.underlying37 rfl extent_info) rfl ⟨rfl, ?_⟩
  exact below_duo HB1.out (by omega) _ _
theorem lstores_no (a n g : Int) (w : World) (h : Um.okU a n g = false) : Calls Try.prog 11 #[.agg #[.int .i64 a, .int .i64 n, .int .i64 g]] w fun e w' => e = .returned (.agg #[.int .i64 (0), .int .i64 (0)]) ∧ Below w.heap.size w w' := by
  have R := Lib.hid (fun w1 => told_any a n g w1)
  rw [h] at R
  obtain ⟨W0, hW0⟩ : ∃ W0, (w.alloc (.cells #[.int .i64 a, .int .i64 n, .int .i64 g] 25)).alloc (.cells #[.int .i64 0, .int .i64 0] 37) = W0 := ⟨_, rfl⟩
  obtain ⟨hB, hx, hr, hsz⟩ := duo_made w a n g 37 W0 hW0
  have HB := Lib.hid hB
  have HX := Lib.hid hx
  have HR := Lib.hid hr
  have SZ := Lib.hid hsz
  obtain ⟨_, a0, a1, a2⟩ := hx
  clear hB hr hsz h
  go_enter Try.func11, Try.ntmps11
  go_wp2_with fail
  clear hW0 a0 a1 a2
  refine (R.out _).mono ?_
  rintro e w1 ⟨rfl, hb⟩
  have hr1 := (hb.block (w.heap.size + 1) (by rw [SZ.out]; omega)).trans HR.out
  have HB1 := Lib.hid (HB.out.trans (hb.mono HB.out.size))
  have R1 := Lib.hid hr1
  obtain ⟨_, a0, a1, a2⟩ := HX.out.next hb
  obtain ⟨z0, z1, zf⟩ := duo_cells hr1
  clear hb hr1
  go_wp2_with fail
  refine bodyPost_ret (results_cell_row (p := 2) (ty := 37) rfl _ _ (w.heap.size + 1) 37 _ (0, 0) _ rfl (duo_set R1.out _ _) Try.underlying37 rfl extent_info) rfl ⟨rfl, ?_⟩
  exact below_duo HB1.out (by omega) _ _
theorem lslot_no (a n g i : Int) (w : World) (h : Um.okU a n g = false) : Calls Try.prog 7 #[.agg #[.int .i64 a, .int .i64 n, .int .i64 g], .int .i64 i] w fun e w' => e = .returned (.tuple #[.int .i64 (0), .int .i64 1]) ∧ Below w.heap.size w w' := by
  have R := Lib.hid (fun w1 => told_any a n g w1)
  rw [h] at R
  have HB : Hid (Below w.heap.size w (w.alloc (.cells #[.int .i64 a, .int .i64 n, .int .i64 g] 25))) := (Below.refl _ w).alloc (Nat.le_refl _) _
  have HX := Lib.hid (ux_alloc w a n g 25)
  obtain ⟨_, a0, a1, a2⟩ := HX.out
  clear h
  go_enter Try.func7, Try.ntmps7
  go_wp2_with fail
  refine (R.out _).mono ?_
  rintro e w1 ⟨rfl, hb⟩
  have HB1 := Lib.hid (HB.out.trans (hb.mono HB.out.size))
  clear hb a0 a1 a2
  go_wp2_with fail
  go_ret2
  exact ⟨rfl, HB1.out⟩
theorem lslot_low (a n g i : Int) (w : World) (h : Um.okU a n g = true) (h1 : i < 0) : Calls Try.prog 7 #[.agg #[.int .i64 a, .int .i64 n, .int .i64 g], .int .i64 i] w fun e w' => e = .returned (.tuple #[.int .i64 (0), .int .i64 2]) ∧ Below w.heap.size w w' := by
  have R := Lib.hid (fun w1 => told_any a n g w1)
  rw [h] at R
  have HB : Hid (Below w.heap.size w (w.alloc (.cells #[.int .i64 a, .int .i64 n, .int .i64 g] 25))) := (Below.refl _ w).alloc (Nat.le_refl _) _
  have HX := Lib.hid (ux_alloc w a n g 25)
  obtain ⟨_, a0, a1, a2⟩ := HX.out
  clear h
  go_enter Try.func7, Try.ntmps7
  go_wp2_with fail
  refine (R.out _).mono ?_
  rintro e w1 ⟨rfl, hb⟩
  have HB1 := Lib.hid (HB.out.trans (hb.mono HB.out.size))
  clear hb a0 a1 a2
  go_wp2_with fail
  go_ret2
  exact ⟨rfl, HB1.out⟩
theorem lslot_high (a n g i : Int) (w : World) (h : Um.okU a n g = true) (h1 : 16 ≤ i) : Calls Try.prog 7 #[.agg #[.int .i64 a, .int .i64 n, .int .i64 g], .int .i64 i] w fun e w' => e = .returned (.tuple #[.int .i64 (0), .int .i64 2]) ∧ Below w.heap.size w w' := by
  have R := Lib.hid (fun w1 => told_any a n g w1)
  rw [h] at R
  have d1 : decide (i < 0) = false := by simp; omega
  have HB : Hid (Below w.heap.size w (w.alloc (.cells #[.int .i64 a, .int .i64 n, .int .i64 g] 25))) := (Below.refl _ w).alloc (Nat.le_refl _) _
  have HX := Lib.hid (ux_alloc w a n g 25)
  obtain ⟨_, a0, a1, a2⟩ := HX.out
  clear h
  go_enter Try.func7, Try.ntmps7
  go_wp2_with fail
  refine (R.out _).mono ?_
  rintro e w1 ⟨rfl, hb⟩
  have HB1 := Lib.hid (HB.out.trans (hb.mono HB.out.size))
  clear hb a0 a1 a2
  go_wp2_with fail
  go_ret2
  exact ⟨rfl, HB1.out⟩
theorem lslot_ok (a n g i : Int) (w : World) (h : Um.okU a n g = true) (h1 : 0 ≤ i) (h2 : i < 16) : Calls Try.prog 7 #[.agg #[.int .i64 a, .int .i64 n, .int .i64 g], .int .i64 i] w fun e w' => e = .returned (.tuple #[.int .i64 (1 + i), .int .i64 0]) ∧ Below w.heap.size w w' := by
  have R := Lib.hid (fun w1 => told_any a n g w1)
  rw [h] at R
  have d1 : decide (i < 0) = false := by simp; omega
  have d2 : decide (16 ≤ i) = false := by simp; omega
  have e1 : IntKind.i64.wrap (1 + i) = 1 + i := IntWalk.i64_in _ (by omega)
  have HB : Hid (Below w.heap.size w (w.alloc (.cells #[.int .i64 a, .int .i64 n, .int .i64 g] 25))) := (Below.refl _ w).alloc (Nat.le_refl _) _
  have HX := Lib.hid (ux_alloc w a n g 25)
  obtain ⟨_, a0, a1, a2⟩ := HX.out
  clear h
  go_enter Try.func7, Try.ntmps7
  go_wp2_with fail
  refine (R.out _).mono ?_
  rintro e w1 ⟨rfl, hb⟩
  have HB1 := Lib.hid (HB.out.trans (hb.mono HB.out.size))
  clear hb a0 a1 a2
  go_wp2_with fail
  go_ret2
  exact ⟨rfl, HB1.out⟩
end Go.Proofs.Ytilfipebmgmmeaa
