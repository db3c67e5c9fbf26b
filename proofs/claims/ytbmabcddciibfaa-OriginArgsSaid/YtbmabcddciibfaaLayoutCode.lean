/- Contracts of layout's Of and told. -/
import Derived.Test.YtbmabcddciibfaaSuperRight
import Derived.Test.YtbmabcddciibfaaFour
import Derived.Laws.Tables
namespace Go.Proofs.Ytbmabcddciibfaa
open Go.RowKit
set_option maxRecDepth 100000
set_option linter.unusedVariables false
/-- A row of three. -/
theorem tri_cells {W : World} {g : Nat} {x y z : Value} {t : TypeId} (h : W.heap[g]? = some (.cells #[x, y, z] t (0, 0))) :
    W.cell? ⟨g, 0, none⟩ = some x ∧ W.cell? ⟨g, 1, none⟩ = some y ∧ W.cell? ⟨g, 2, none⟩ = some z ∧ ∀ j, W.frozen? ⟨g, j, none⟩ = false :=
  ⟨by rw [cell_of_row _ _ _ _ _ _ h]; rfl, by rw [cell_of_row _ _ _ _ _ _ h]; rfl, by rw [cell_of_row _ _ _ _ _ _ h]; rfl, fun j => frozen_of_row (j := j) _ _ _ _ h⟩
theorem results_layout {fn : Func} {p u : Tmp} (h : fn.results = #[.cell p 30, .tmp u]) (tmps : Array Value) (w : World) (g : Nat) (x0 x1 x2 v : Value)
    (hp : tmps.getD p undef = .pointer (some ⟨g, 0, none⟩)) (hu : tmps.getD u undef = v) (hg : w.heap[g]? = some (.cells #[x0, x1, x2] 30 (0, 0))) :
    (results fn tmps).run Try.prog w = .ok (.tuple #[.agg #[x0, x1, x2], v]) w := by
  have hi : (Try.prog.info? 30).map (·.size) = some (#[x0, x1, x2] : Array Value).size := by kernel_rfl
  rw [results_cell_tmp h, hp, hu]
  simp [asAddr, run_loadVar_row w g 30 30 #[x0, x1, x2] (0, 0) _ hg Try.underlying30 rfl hi, Result.andThen]
theorem of_made (w : World) (a n g : Int) (W0 : World) (h : (w.alloc (.cells #[.int .i64 a, .int .i64 n, .int .i64 g] 23)).alloc (.cells #[.int .i64 0, .int .i64 0, .int .i64 0] 30) = W0) :
    Below w.heap.size w W0 ∧ Ux W0 w.heap.size a n g ∧ W0.heap[w.heap.size + 1]? = some (.cells #[.int .i64 0, .int .i64 0, .int .i64 0] 30 (0, 0)) ∧ W0.heap.size = w.heap.size + 2 := by
  subst h
  have h1 := ux_alloc w a n g 23
  have h2 := heap_alloc_new (w.alloc (.cells #[.int .i64 a, .int .i64 n, .int .i64 g] 23)) (.cells #[.int .i64 0, .int .i64 0, .int .i64 0] 30)
  have hs : (w.alloc (.cells #[.int .i64 a, .int .i64 n, .int .i64 g] 23)).heap.size = w.heap.size + 1 := by simp
  rw [hs] at h2
  exact ⟨((Below.refl _ w).alloc (Nat.le_refl _) _).alloc (by simp) _, h1.next ((Below.refl _ _).alloc (Nat.le_refl _) _), h2, by simp⟩

theorem of_ok (a n g : Int) (w : World) (h : Um.okU a n g = true) : Calls Try.prog 6 #[.agg #[.int .i64 a, .int .i64 n, .int .i64 g]] w fun e w' => e = .returned (.tuple #[.agg #[.int .i64 a, .int .i64 n, .int .i64 g], .int .i64 0]) ∧ Below w.heap.size w w' := by
  have R := Lib.hid (fun w1 => uright_any a n g w1)
  rw [h] at R
  unfold Uv at R
  obtain ⟨W0, hW0⟩ : ∃ W0, (w.alloc (.cells #[.int .i64 a, .int .i64 n, .int .i64 g] 23)).alloc (.cells #[.int .i64 0, .int .i64 0, .int .i64 0] 30) = W0 := ⟨_, rfl⟩
  obtain ⟨hB, hx, hr, hsz⟩ := of_made w a n g W0 hW0
  have HB := Lib.hid hB
  have HX := Lib.hid hx
  have HR := Lib.hid hr
  have SZ := Lib.hid hsz
  obtain ⟨_, a0, a1, a2⟩ := hx
  clear hB hr hsz h
  go_enter Try.func6, Try.ntmps6
  go_wp2_with fail
  clear hW0 a0 a1 a2
  refine (R.out _).mono ?_
  rintro e w1 ⟨rfl, hb⟩
  have hr1 := (hb.block (w.heap.size + 1) (by rw [SZ.out]; omega)).trans HR.out
  have HB1 := Lib.hid (HB.out.trans (hb.mono HB.out.size))
  have R1 := Lib.hid hr1
  obtain ⟨_, a0, a1, a2⟩ := HX.out.next hb
  obtain ⟨z0, z1, z2, zf⟩ := tri_cells hr1
  clear hb hr1
  go_wp2_with fail
  refine bodyPost_ret (results_layout (p := 2) (u := 3) rfl _ _ (w.heap.size + 1) _ _ _ _ rfl rfl (three_set R1.out _ _ _)) rfl ⟨rfl, ?_⟩
  exact below_three HB1.out (by omega) _ _ _
theorem of_no (a n g : Int) (w : World) (h : Um.okU a n g = false) : Calls Try.prog 6 #[.agg #[.int .i64 a, .int .i64 n, .int .i64 g]] w fun e w' => e = .returned (.tuple #[.agg #[.int .i64 0, .int .i64 0, .int .i64 0], .int .i64 1]) ∧ Below w.heap.size w w' := by
  have R := Lib.hid (fun w1 => uright_any a n g w1)
  rw [h] at R
  unfold Uv at R
  obtain ⟨W0, hW0⟩ : ∃ W0, (w.alloc (.cells #[.int .i64 a, .int .i64 n, .int .i64 g] 23)).alloc (.cells #[.int .i64 0, .int .i64 0, .int .i64 0] 30) = W0 := ⟨_, rfl⟩
  obtain ⟨hB, hx, hr, hsz⟩ := of_made w a n g W0 hW0
  have HB := Lib.hid hB
  have HX := Lib.hid hx
  have HR := Lib.hid hr
  have SZ := Lib.hid hsz
  obtain ⟨_, a0, a1, a2⟩ := hx
  clear hB hr hsz h
  go_enter Try.func6, Try.ntmps6
  go_wp2_with fail
  clear hW0 a0 a1 a2
  refine (R.out _).mono ?_
  rintro e w1 ⟨rfl, hb⟩
  have hr1 := (hb.block (w.heap.size + 1) (by rw [SZ.out]; omega)).trans HR.out
  have HB1 := Lib.hid (HB.out.trans (hb.mono HB.out.size))
  have R1 := Lib.hid hr1
  obtain ⟨_, a0, a1, a2⟩ := HX.out.next hb
  obtain ⟨z0, z1, z2, zf⟩ := tri_cells hr1
  clear hb hr1
  go_wp2_with fail
  refine bodyPost_ret (results_layout (p := 2) (u := 3) rfl _ _ (w.heap.size + 1) _ _ _ _ rfl rfl (three_set R1.out _ _ _)) rfl ⟨rfl, ?_⟩
  exact below_three HB1.out (by omega) _ _ _

theorem told_any (a n g : Int) (w : World) : Calls Try.prog 34 #[.agg #[.int .i64 a, .int .i64 n, .int .i64 g]] w fun e w' => e = .returned (.bool (Um.okU a n g)) ∧ Below w.heap.size w w' := by
  have HB : Hid (Below w.heap.size w (w.alloc (.cells #[.int .i64 a, .int .i64 n, .int .i64 g] 30))) := (Below.refl _ w).alloc (Nat.le_refl _) _
  have HX := Lib.hid (ux_alloc w a n g 30)
  obtain ⟨_, a0, a1, a2⟩ := HX.out
  cases hok : Um.okU a n g with
  | true =>
    have C := Lib.hid (fun w1 => of_ok a n g w1 hok)
    obtain ⟨h1, h2, h3, h4, h5, h6⟩ := Um.okU_small hok
    have d0 : (a == 0) = false := by simp; omega
    clear hok h1 h2 h3 h4 h5 h6
    go_enter Try.func34, Try.ntmps34
    go_wp2_with fail
    refine (C.out _).mono ?_
    rintro e w1 ⟨rfl, hb⟩
    have hb1 := HB.out.trans (hb.mono HB.out.size)
    have HB1 := Lib.hid (hb1.alloc hb1.size (.cells #[.int .i64 a, .int .i64 n, .int .i64 g] 30))
    obtain ⟨_, b0, b1, b2⟩ := ux_alloc w1 a n g 30
    clear hb hb1 a0 a1 a2
    go_wp2_with fail
    go_ret
    exact ⟨rfl, HB1.out⟩
  | false =>
    have C := Lib.hid (fun w1 => of_no a n g w1 hok)
    clear hok
    go_enter Try.func34, Try.ntmps34
    go_wp2_with fail
    refine (C.out _).mono ?_
    rintro e w1 ⟨rfl, hb⟩
    have hb1 := HB.out.trans (hb.mono HB.out.size)
    have HB1 := Lib.hid (hb1.alloc hb1.size (.cells #[.int .i64 0, .int .i64 0, .int .i64 0] 30))
    obtain ⟨_, b0, b1, b2⟩ := ux_alloc w1 0 0 0 30
    clear hb hb1 a0 a1 a2
    go_wp2_with fail
    go_ret
    exact ⟨rfl, HB1.out⟩
end Go.Proofs.Ytbmabcddciibfaa