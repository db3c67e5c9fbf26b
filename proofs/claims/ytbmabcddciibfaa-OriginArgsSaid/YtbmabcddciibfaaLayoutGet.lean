/- Contracts of layout's Geom, Origin, Stores and Slot. (Made by wip/tools/gen_layoutget.py.) -/
import Derived.Test.YtbmabcddciibfaaLayoutCode
import Derived.Test.YtbmabcddciibfaaDuo
namespace Go.Proofs.Ytbmabcddciibfaa
open Go.RowKit
set_option maxRecDepth 100000
set_option linter.unusedVariables false
theorem duo_made (w : World) (a n g : Int) (ty : TypeId) (W0 : World) (h : (w.alloc (.cells #[.int .i64 a, .int .i64 n, .int .i64 g] 30)).alloc (.cells #[.int .i64 0, .int .i64 0] ty) = W0) :
    Below w.heap.size w W0 ∧ Ux W0 w.heap.size a n g ∧ W0.heap[w.heap.size + 1]? = some (.cells #[.int .i64 0, .int .i64 0] ty (0, 0)) ∧ W0.heap.size = w.heap.size + 2 := by
  subst h
  have h1 := ux_alloc w a n g 30
  have h2 := heap_alloc_new (w.alloc (.cells #[.int .i64 a, .int .i64 n, .int .i64 g] 30)) (.cells #[.int .i64 0, .int .i64 0] ty)
  have hs : (w.alloc (.cells #[.int .i64 a, .int .i64 n, .int .i64 g] 30)).heap.size = w.heap.size + 1 := by simp
  rw [hs] at h2
  exact ⟨((Below.refl _ w).alloc (Nat.le_refl _) _).alloc (by simp) _, h1.next ((Below.refl _ _).alloc (Nat.le_refl _) _), h2, by simp⟩
theorem geom_info : (Try.prog.info? 51).map (·.size) = some (#[.int .i64 0, .int .i64 0] : Array Value).size := by kernel_rfl
theorem extent_info : (Try.prog.info? 48).map (·.size) = some (#[.int .i64 0, .int .i64 0] : Array Value).size := by kernel_rfl

theorem lgeom_ok (a n g : Int) (w : World) (h : Um.okU a n g = true) : Calls Try.prog 19 #[.agg #[.int .i64 a, .int .i64 n, .int .i64 g]] w fun e w' => e = .returned (.agg #[.int .i64 (n), .int .i64 (g)]) ∧ Below w.heap.size w w' := by
  have R := Lib.hid (fun w1 => told_any a n g w1)
  rw [h] at R
  obtain ⟨h1, h2, h3, h4, h5, h6⟩ := Um.okU_small h
  clear h1 h2 h3 h4 h5 h6
  obtain ⟨W0, hW0⟩ : ∃ W0, (w.alloc (.cells #[.int .i64 a, .int .i64 n, .int .i64 g] 30)).alloc (.cells #[.int .i64 0, .int .i64 0] 51) = W0 := ⟨_, rfl⟩
  obtain ⟨hB, hx, hr, hsz⟩ := duo_made w a n g 51 W0 hW0
  have HB := Lib.hid hB
  have HX := Lib.hid hx
  have HR := Lib.hid hr
  have SZ := Lib.hid hsz
  obtain ⟨_, a0, a1, a2⟩ := hx
  clear hB hr hsz h
  go_enter Try.func19, Try.ntmps19
  go_wp2_with fail
  clear hW0 a0 a1 a2
  refine (R.out _).mono ?_
  rintro e w1 ⟨rfl, hb⟩
  have hr1 := (hb.block (w.heap.size + 1) (by rw [SZ.out]; omega)).trans HR.out
  have HB1 := Lib.hid (HB.out.trans (hb.mono HB.out.size))
  have R1 := Lib.hid hr1
  obtain ⟨_, a0, a1, a2⟩ := HX.out.next hb
  obtain ⟨z0, z1, zf⟩ := duo_cells hr1
  clear hb hr1
  go_wp2_with fail
  refine bodyPost_ret (results_cell_row (p := 2) (ty := 51) rfl _ _ (w.heap.size + 1) 51 _ (0, 0) _ rfl (duo_set R1.out _ _) Try.underlying51 rfl geom_info) rfl ⟨rfl, ?_⟩
  exact below_duo HB1.out (by omega) _ _
theorem lgeom_no (a n g : Int) (w : World) (h : Um.okU a n g = false) : Calls Try.prog 19 #[.agg #[.int .i64 a, .int .i64 n, .int .i64 g]] w fun e w' => e = .returned (.agg #[.int .i64 (0), .int .i64 (0)]) ∧ Below w.heap.size w w' := by
  have R := Lib.hid (fun w1 => told_any a n g w1)
  rw [h] at R
  obtain ⟨W0, hW0⟩ : ∃ W0, (w.alloc (.cells #[.int .i64 a, .int .i64 n, .int .i64 g] 30)).alloc (.cells #[.int .i64 0, .int .i64 0] 51) = W0 := ⟨_, rfl⟩
  obtain ⟨hB, hx, hr, hsz⟩ := duo_made w a n g 51 W0 hW0
  have HB := Lib.hid hB
  have HX := Lib.hid hx
  have HR := Lib.hid hr
  have SZ := Lib.hid hsz
  obtain ⟨_, a0, a1, a2⟩ := hx
  clear hB hr hsz h
  go_enter Try.func19, Try.ntmps19
  go_wp2_with fail
  clear hW0 a0 a1 a2
  refine (R.out _).mono ?_
  rintro e w1 ⟨rfl, hb⟩
  have hr1 := (hb.block (w.heap.size + 1) (by rw [SZ.out]; omega)).trans HR.out
  have HB1 := Lib.hid (HB.out.trans (hb.mono HB.out.size))
  have R1 := Lib.hid hr1
  obtain ⟨_, a0, a1, a2⟩ := HX.out.next hb
  obtain ⟨z0, z1, zf⟩ := duo_cells hr1
  clear hb hr1
  go_wp2_with fail
  refine bodyPost_ret (results_cell_row (p := 2) (ty := 51) rfl _ _ (w.heap.size + 1) 51 _ (0, 0) _ rfl (duo_set R1.out _ _) Try.underlying51 rfl geom_info) rfl ⟨rfl, ?_⟩
  exact below_duo HB1.out (by omega) _ _
theorem lorigin_ok (a n g : Int) (w : World) (h : Um.okU a n g = true) : Calls Try.prog 18 #[.agg #[.int .i64 a, .int .i64 n, .int .i64 g]] w fun e w' => e = .returned (.agg #[.int .i64 (17), .int .i64 (n)]) ∧ Below w.heap.size w w' := by
  have R := Lib.hid (fun w1 => told_any a n g w1)
  rw [h] at R
  obtain ⟨h1, h2, h3, h4, h5, h6⟩ := Um.okU_small h
  clear h1 h2 h3 h4 h5 h6
  obtain ⟨W0, hW0⟩ : ∃ W0, (w.alloc (.cells #[.int .i64 a, .int .i64 n, .int .i64 g] 30)).alloc (.cells #[.int .i64 0, .int .i64 0] 48) = W0 := ⟨_, rfl⟩
  obtain ⟨hB, hx, hr, hsz⟩ := duo_made w a n g 48 W0 hW0
  have HB := Lib.hid hB
  have HX := Lib.hid hx
  have HR := Lib.hid hr
  have SZ := Lib.hid hsz
  obtain ⟨_, a0, a1, a2⟩ := hx
  clear hB hr hsz h
  go_enter Try.func18, Try.ntmps18
  go_wp2_with fail
  clear hW0 a0 a1 a2
  refine (R.out _).mono ?_
  rintro e w1 ⟨rfl, hb⟩
  have hr1 := (hb.block (w.heap.size + 1) (by rw [SZ.out]; omega)).trans HR.out
  have HB1 := Lib.hid (HB.out.trans (hb.mono HB.out.size))
  have R1 := Lib.hid hr1
  obtain ⟨_, a0, a1, a2⟩ := HX.out.next hb
  obtain ⟨z0, z1, zf⟩ := duo_cells hr1
  clear hb hr1
  go_wp2_with fail
  refine bodyPost_ret (results_cell_row (p := 2) (ty := 48) rfl _ _ (w.heap.size + 1) 48 _ (0, 0) _ rfl (duo_set R1.out _ _) Try.underlying48 rfl extent_info) rfl ⟨rfl, ?_⟩
  exact below_duo HB1.out (by omega) _ _
theorem lorigin_no (a n g : Int) (w : World) (h : Um.okU a n g = false) : Calls Try.prog 18 #[.agg #[.int .i64 a, .int .i64 n, .int .i64 g]] w fun e w' => e = .returned (.agg #[.int .i64 (0), .int .i64 (0)]) ∧ Below w.heap.size w w' := by
  have R := Lib.hid (fun w1 => told_any a n g w1)
  rw [h] at R
  obtain ⟨W0, hW0⟩ : ∃ W0, (w.alloc (.cells #[.int .i64 a, .int .i64 n, .int .i64 g] 30)).alloc (.cells #[.int .i64 0, .int .i64 0] 48) = W0 := ⟨_, rfl⟩
  obtain ⟨hB, hx, hr, hsz⟩ := duo_made w a n g 48 W0 hW0
  have HB := Lib.hid hB
  have HX := Lib.hid hx
  have HR := Lib.hid hr
  have SZ := Lib.hid hsz
  obtain ⟨_, a0, a1, a2⟩ := hx
  clear hB hr hsz h
  go_enter Try.func18, Try.ntmps18
  go_wp2_with fail
  clear hW0 a0 a1 a2
  refine (R.out _).mono ?_
  rintro e w1 ⟨rfl, hb⟩
  have hr1 := (hb.block (w.heap.size + 1) (by rw [SZ.out]; omega)).trans HR.out
  have HB1 := Lib.hid (HB.out.trans (hb.mono HB.out.size))
  have R1 := Lib.hid hr1
  obtain ⟨_, a0, a1, a2⟩ := HX.out.next hb
  obtain ⟨z0, z1, zf⟩ := duo_cells hr1
  clear hb hr1
  go_wp2_with fail
  refine bodyPost_ret (results_cell_row (p := 2) (ty := 48) rfl _ _ (w.heap.size + 1) 48 _ (0, 0) _ rfl (duo_set R1.out _ _) Try.underlying48 rfl extent_info) rfl ⟨rfl, ?_⟩
  exact below_duo HB1.out (by omega) _ _
theorem lstores_ok (a n g : Int) (w : World) (h : Um.okU a n g = true) : Calls Try.prog 21 #[.agg #[.int .i64 a, .int .i64 n, .int .i64 g]] w fun e w' => e = .returned (.agg #[.int .i64 (17 + n), .int .i64 (a - (17 + n))]) ∧ Below w.heap.size w w' := by
  have R := Lib.hid (fun w1 => told_any a n g w1)
  rw [h] at R
  obtain ⟨h1, h2, h3, h4, h5, h6⟩ := Um.okU_small h
  have e1 : IntKind.i64.wrap (17 + n) = 17 + n := IntWalk.i64_in _ (by omega)
  have e2 : IntKind.i64.wrap (a - (17 + n)) = a - (17 + n) := IntWalk.i64_in _ (by omega)
  clear h1 h2 h3 h4 h5 h6
  obtain ⟨W0, hW0⟩ : ∃ W0, (w.alloc (.cells #[.int .i64 a, .int .i64 n, .int .i64 g] 30)).alloc (.cells #[.int .i64 0, .int .i64 0] 48) = W0 := ⟨_, rfl⟩
  obtain ⟨hB, hx, hr, hsz⟩ := duo_made w a n g 48 W0 hW0
  have HB := Lib.hid hB
  have HX := Lib.hid hx
  have HR := Lib.hid hr
  have SZ := Lib.hid hsz
  obtain ⟨_, a0, a1, a2⟩ := hx
  clear hB hr hsz h
  go_enter Try.func21, Try.ntmps21
  go_wp2_with fail
  clear hW0 a0 a1 a2
  refine (R.out _).mono ?_
  rintro e w1 ⟨rfl, hb⟩
  have hr1 := (hb.block (w.heap.size + 1) (by rw [SZ.out]; omega)).trans HR.out
  have HB1 := Lib.hid (HB.out.trans (hb.mono HB.out.size))
  have R1 := Lib.hid hr1
  obtain ⟨_, a0, a1, a2⟩ := HX.out.next hb
  obtain ⟨z0, z1, zf⟩ := duo_cells hr1
  clear hb hr1
  go_wp2_with fail
  refine bodyPost_ret (results_cell_row (p := 2) (ty := 48) rfl _ _ (w.heap.size + 1) 48 _ (0, 0) _ rfl (duo_set R1.out _ _) Try.underlying48 rfl extent_info) rfl ⟨rfl, ?_⟩
  exact below_duo HB1.out (by omega) _ _
theorem lstores_no (a n g : Int) (w : World) (h : Um.okU a n g = false) : Calls Try.prog 21 #[.agg #[.int .i64 a, .int .i64 n, .int .i64 g]] w fun e w' => e = .returned (.agg #[.int .i64 (0), .int .i64 (0)]) ∧ Below w.heap.size w w' := by
  have R := Lib.hid (fun w1 => told_any a n g w1)
  rw [h] at R
  obtain ⟨W0, hW0⟩ : ∃ W0, (w.alloc (.cells #[.int .i64 a, .int .i64 n, .int .i64 g] 30)).alloc (.cells #[.int .i64 0, .int .i64 0] 48) = W0 := ⟨_, rfl⟩
  obtain ⟨hB, hx, hr, hsz⟩ := duo_made w a n g 48 W0 hW0
  have HB := Lib.hid hB
  have HX := Lib.hid hx
  have HR := Lib.hid hr
  have SZ := Lib.hid hsz
  obtain ⟨_, a0, a1, a2⟩ := hx
  clear hB hr hsz h
  go_enter Try.func21, Try.ntmps21
  go_wp2_with fail
  clear hW0 a0 a1 a2
  refine (R.out _).mono ?_
  rintro e w1 ⟨rfl, hb⟩
  have hr1 := (hb.block (w.heap.size + 1) (by rw [SZ.out]; omega)).trans HR.out
  have HB1 := Lib.hid (HB.out.trans (hb.mono HB.out.size))
  have R1 := Lib.hid hr1
  obtain ⟨_, a0, a1, a2⟩ := HX.out.next hb
  obtain ⟨z0, z1, zf⟩ := duo_cells hr1
  clear hb hr1
  go_wp2_with fail
  refine bodyPost_ret (results_cell_row (p := 2) (ty := 48) rfl _ _ (w.heap.size + 1) 48 _ (0, 0) _ rfl (duo_set R1.out _ _) Try.underlying48 rfl extent_info) rfl ⟨rfl, ?_⟩
  exact below_duo HB1.out (by omega) _ _
end Go.Proofs.Ytbmabcddciibfaa