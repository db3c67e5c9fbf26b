/- Part 14 of the contracts and of the plain mathematics that the proof of the law rests on: SuperRight, Four, LayoutCode, Duo, LayoutGet, LayoutRoom, LayoutPage, LayoutChunk. -/
import Derived.Test.YtbmabcddciibfaaGreatWr01
import Derived.Test.YtbmabcddciibfaaGreatWr11
import Derived.Laws.Rows
import Derived.Laws.ResultCell
import Derived.Laws.OwnMore
import Derived.Deep.RegionHeld3
import Derived.Deep.QuietTactic
import Derived.BigQuiet
import Derived.Outline
import Derived.WalkKit
import Derived.OwnWalk
import Derived.Below
import Derived.Laws.NewBlocks
import Derived.Laws.Tables
namespace Go.Proofs.YtbmabcddciibfaaGreat
open Go.RowKit
set_option maxRecDepth 100000
set_option linter.unusedVariables false
def Uv (a n g : Int) : Value := .agg #[.int .i64 a, .int .i64 n, .int .i64 g]
structure Ux (W : World) (k : Nat) (a n g : Int) : Prop where
  lt : k < W.heap.size
  c0 : W.cell? ⟨k, 0, none⟩ = some (.int .i64 a)
  c1 : W.cell? ⟨k, 1, none⟩ = some (.int .i64 n)
  c2 : W.cell? ⟨k, 2, none⟩ = some (.int .i64 g)
theorem Ux.below {W W' : World} {k : Nat} {a n g : Int} {B : Nat} (h : Ux W k a n g) (hk : k < B) (hb : Below B W W') : Ux W' k a n g :=
  ⟨Nat.lt_of_lt_of_le h.lt hb.size, (hb.cell (p := ⟨k, 0, none⟩) hk).trans h.c0, (hb.cell (p := ⟨k, 1, none⟩) hk).trans h.c1, (hb.cell (p := ⟨k, 2, none⟩) hk).trans h.c2⟩
theorem Ux.next {W W' : World} {k : Nat} {a n g : Int} (h : Ux W k a n g) (hb : Below W.heap.size W W') : Ux W' k a n g := h.below h.lt hb
theorem ux_row {W : World} {k : Nat} {a n g : Int} {ty : TypeId} (h : W.heap[k]? = some (.cells #[.int .i64 a, .int .i64 n, .int .i64 g] ty (0, 0))) : Ux W k a n g :=
  ⟨(Array.getElem?_eq_some_iff.1 h).1, by rw [cell_of_row _ _ _ _ _ _ h]; rfl, by rw [cell_of_row _ _ _ _ _ _ h]; rfl, by rw [cell_of_row _ _ _ _ _ _ h]; rfl⟩
theorem ux_alloc (w : World) (a n g : Int) (ty : TypeId) : Ux (w.alloc (.cells #[.int .i64 a, .int .i64 n, .int .i64 g] ty)) w.heap.size a n g := ux_row (heap_alloc_new w _)
theorem uright_any (a n g : Int) (w : World) : Calls Tryz.prog 70 #[Uv a n g] w fun e w' => e = .returned (.bool (Um.okU a n g)) ∧ Below w.heap.size w w' := by
  have R := Lib.hid (fun w1 => Geo.right_any n g w1)
  have BX0 := Lib.hid (ux_alloc w a n g 23)
  have hb0 : Below w.heap.size w (w.alloc (.cells #[.int .i64 a, .int .i64 n, .int .i64 g] 23)) := (Below.refl _ w).alloc (Nat.le_refl _) _
  obtain ⟨W0, hW0⟩ : ∃ W0, w.alloc (.cells #[.int .i64 a, .int .i64 n, .int .i64 g] 23) = W0 := ⟨_, rfl⟩
  rw [hW0] at BX0 hb0
  have HB0 := Lib.hid hb0
  have hb1 : Below W0.heap.size W0 (W0.alloc (.cells #[.int .i64 n, .int .i64 g] 137)) := (Below.refl _ W0).alloc (Nat.le_refl _) _
  have BX1 := Lib.hid (BX0.out.next hb1)
  have HB1 := Lib.hid (HB0.out.trans (hb1.mono HB0.out.size))
  obtain ⟨g0, g1⟩ := Geo.cell_alloc2 W0 n g
  obtain ⟨lt0, a0, a1, a2⟩ := BX0.out
  clear hb0 hb1
  unfold Uv
  cases hok : Em.rightB n g with
  | false =>
    have HK := Lib.hid (show Um.okU a n g = false by unfold Um.okU; rw [hok]; rfl)
    rw [hok] at R
    clear hok
    go_enter Tryz.func70, Tryz.ntmps70
    go_wp2_with fail
    clear hW0 lt0 a0 a1 a2
    refine (R.out _).mono ?_
    rintro e w2 ⟨rfl, hb⟩
    have HB2 := Lib.hid (HB1.out.trans (hb.mono HB1.out.size))
    clear hb g0 g1
    go_wp2
    go_ret
    exact ⟨by rw [HK.out]; rfl, HB2.out⟩
  | true =>
    obtain ⟨h1, h2, h3, h4⟩ := (Em.right_iff _ _).1 hok
    have e1 : IntKind.i64.wrap (n + 17) = n + 17 := IntWalk.i64_in _ (by omega)
    rw [hok] at R
    by_cases hs : n + 17 ≤ a
    · have d1 : decide (n + 17 ≤ a) = true := by simpa using hs
      have HK := Lib.hid (show Um.okU a n g = decide (a ≤ 1048576) by unfold Um.okU; rw [hok, d1]; rfl)
      clear hok h1 h2 h3 h4 hs
      go_enter Tryz.func70, Tryz.ntmps70
      go_wp2_with fail
      clear hW0 lt0 a0 a1 a2
      refine (R.out _).mono ?_
      rintro e w2 ⟨rfl, hb⟩
      have HB2 := Lib.hid (HB1.out.trans (hb.mono HB1.out.size))
      obtain ⟨_, a0, a1, a2⟩ := BX1.out.next hb
      clear hb g0 g1
      go_wp2
      go_ret
      exact ⟨by rw [HK.out]; rfl, HB2.out⟩
    · have d1 : decide (n + 17 ≤ a) = false := by simpa using hs
      have HK := Lib.hid (show Um.okU a n g = false by unfold Um.okU; rw [hok, d1]; rfl)
      clear hok h1 h2 h3 h4 hs
      go_enter Tryz.func70, Tryz.ntmps70
      go_wp2_with fail
      clear hW0 lt0 a0 a1 a2
      refine (R.out _).mono ?_
      rintro e w2 ⟨rfl, hb⟩
      have HB2 := Lib.hid (HB1.out.trans (hb.mono HB1.out.size))
      obtain ⟨_, a0, a1, a2⟩ := BX1.out.next hb
      clear hb g0 g1
      go_wp2
      go_ret
      exact ⟨by rw [HK.out]; rfl, HB2.out⟩
end Go.Proofs.YtbmabcddciibfaaGreat
namespace Go.Proofs.YtbmabcddciibfaaGreat
open Go.RowKit
set_option linter.unusedVariables false
theorem four_set {w : World} {g : Nat} {a b c d : Value} {t : TypeId} (h : w.heap[g]? = some (.cells #[a, b, c, d] t (0, 0))) (x y z u : Value) :
    ((((w.setCell ⟨g, 0, none⟩ x).setCell ⟨g, 1, none⟩ y).setCell ⟨g, 2, none⟩ z).setCell ⟨g, 3, none⟩ u).heap[g]? = some (.cells #[x, y, z, u] t (0, 0)) := by
  have h1 := heap_setCell_same w g 0 _ _ x h
  have h2 := heap_setCell_same _ g 1 _ _ y h1
  have h3 := heap_setCell_same _ g 2 _ _ z h2
  exact heap_setCell_same _ g 3 _ _ u h3
theorem below_four {B : Nat} {a w : World} {g : Nat} (h : Below B a w) (hg : B ≤ g) (x y z u : Value) : Below B a ((((w.setCell ⟨g, 0, none⟩ x).setCell ⟨g, 1, none⟩ y).setCell ⟨g, 2, none⟩ z).setCell ⟨g, 3, none⟩ u) :=
  (((h.setCell (p := ⟨g, 0, none⟩) hg x).setCell (p := ⟨g, 1, none⟩) hg y).setCell (p := ⟨g, 2, none⟩) hg z).setCell (p := ⟨g, 3, none⟩) hg u
theorem three_set {w : World} {g : Nat} {a b c : Value} {t : TypeId} (h : w.heap[g]? = some (.cells #[a, b, c] t (0, 0))) (x y z : Value) :
    (((w.setCell ⟨g, 0, none⟩ x).setCell ⟨g, 1, none⟩ y).setCell ⟨g, 2, none⟩ z).heap[g]? = some (.cells #[x, y, z] t (0, 0)) := by
  have h1 := heap_setCell_same w g 0 _ _ x h
  have h2 := heap_setCell_same _ g 1 _ _ y h1
  exact heap_setCell_same _ g 2 _ _ z h2
theorem below_three {B : Nat} {a w : World} {g : Nat} (h : Below B a w) (hg : B ≤ g) (x y z : Value) : Below B a (((w.setCell ⟨g, 0, none⟩ x).setCell ⟨g, 1, none⟩ y).setCell ⟨g, 2, none⟩ z) :=
  ((h.setCell (p := ⟨g, 0, none⟩) hg x).setCell (p := ⟨g, 1, none⟩) hg y).setCell (p := ⟨g, 2, none⟩) hg z
end Go.Proofs.YtbmabcddciibfaaGreat
namespace Go.Proofs.YtbmabcddciibfaaGreat
open Go.RowKit
set_option maxRecDepth 100000
set_option linter.unusedVariables false
theorem tri_cells {W : World} {g : Nat} {x y z : Value} {t : TypeId} (h : W.heap[g]? = some (.cells #[x, y, z] t (0, 0))) :
    W.cell? ⟨g, 0, none⟩ = some x ∧ W.cell? ⟨g, 1, none⟩ = some y ∧ W.cell? ⟨g, 2, none⟩ = some z ∧ ∀ j, W.frozen? ⟨g, j, none⟩ = false :=
  ⟨by rw [cell_of_row _ _ _ _ _ _ h]; rfl, by rw [cell_of_row _ _ _ _ _ _ h]; rfl, by rw [cell_of_row _ _ _ _ _ _ h]; rfl, fun j => frozen_of_row (j := j) _ _ _ _ h⟩
theorem results_layout {fn : Func} {p u : Tmp} (h : fn.results = #[.cell p 44, .tmp u]) (tmps : Array Value) (w : World) (g : Nat) (x0 x1 x2 v : Value)
    (hp : tmps.getD p undef = .pointer (some ⟨g, 0, none⟩)) (hu : tmps.getD u undef = v) (hg : w.heap[g]? = some (.cells #[x0, x1, x2] 44 (0, 0))) :
    (results fn tmps).run Tryz.prog w = .ok (.tuple #[.agg #[x0, x1, x2], v]) w := by
  have hi : (Tryz.prog.info? 44).map (·.size) = some (#[x0, x1, x2] : Array Value).size := by kernel_rfl
  rw [results_cell_tmp h, hp, hu]
  simp [asAddr, run_loadVar_row w g 44 44 #[x0, x1, x2] (0, 0) _ hg Tryz.underlying44 rfl hi, Result.andThen]
theorem of_made (w : World) (a n g : Int) (W0 : World) (h : (w.alloc (.cells #[.int .i64 a, .int .i64 n, .int .i64 g] 23)).alloc (.cells #[.int .i64 0, .int .i64 0, .int .i64 0] 44) = W0) :
    Below w.heap.size w W0 ∧ Ux W0 w.heap.size a n g ∧ W0.heap[w.heap.size + 1]? = some (.cells #[.int .i64 0, .int .i64 0, .int .i64 0] 44 (0, 0)) ∧ W0.heap.size = w.heap.size + 2 := by
  subst h
  have h1 := ux_alloc w a n g 23
  have h2 := heap_alloc_new (w.alloc (.cells #[.int .i64 a, .int .i64 n, .int .i64 g] 23)) (.cells #[.int .i64 0, .int .i64 0, .int .i64 0] 44)
  have hs : (w.alloc (.cells #[.int .i64 a, .int .i64 n, .int .i64 g] 23)).heap.size = w.heap.size + 1 := by simp
  rw [hs] at h2
  exact ⟨((Below.refl _ w).alloc (Nat.le_refl _) _).alloc (by simp) _, h1.next ((Below.refl _ _).alloc (Nat.le_refl _) _), h2, by simp⟩
theorem of_ok (a n g : Int) (w : World) (h : Um.okU a n g = true) : Calls Tryz.prog 28 #[.agg #[.int .i64 a, .int .i64 n, .int .i64 g]] w fun e w' => e = .returned (.tuple #[.agg #[.int .i64 a, .int .i64 n, .int .i64 g], .int .i64 0]) ∧ Below w.heap.size w w' := by
  have R := Lib.hid (fun w1 => uright_any a n g w1)
  rw [h] at R
  unfold Uv at R
  obtain ⟨W0, hW0⟩ : ∃ W0, (w.alloc (.cells #[.int .i64 a, .int .i64 n, .int .i64 g] 23)).alloc (.cells #[.int .i64 0, .int .i64 0, .int .i64 0] 44) = W0 := ⟨_, rfl⟩
  obtain ⟨hB, hx, hr, hsz⟩ := of_made w a n g W0 hW0
  have HB := Lib.hid hB
  have HX := Lib.hid hx
  have HR := Lib.hid hr
  have SZ := Lib.hid hsz
  obtain ⟨_, a0, a1, a2⟩ := hx
  clear hB hr hsz h
  go_enter Tryz.func28, Tryz.ntmps28
  go_wp2_with fail
  clear hW0 a0 a1 a2
  refine (R.out _).mono ?_
  rintro e w1 ⟨rfl, hb⟩
  have hr1 := (hb.block (w.heap.size + 1) (by rw [SZ.out]; omega)).trans HR.out
  have HB1 := Lib.hid (HB.out.trans (hb.mono HB.out.size))
  have R1 := Lib.hid hr1
  obtain ⟨_, a0, a1, a2⟩ := HX.out.next hb
  obtain ⟨z0, z1, z2, zf⟩ := tri_cells hr1
  clear hb hr1
  go_wp2_with fail
  refine bodyPost_ret (results_layout (p := 2) (u := 3) rfl _ _ (w.heap.size + 1) _ _ _ _ rfl rfl (three_set R1.out _ _ _)) rfl ⟨rfl, ?_⟩
  exact below_three HB1.out (by omega) _ _ _
theorem of_no (a n g : Int) (w : World) (h : Um.okU a n g = false) : Calls Tryz.prog 28 #[.agg #[.int .i64 a, .int .i64 n, .int .i64 g]] w fun e w' => e = .returned (.tuple #[.agg #[.int .i64 0, .int .i64 0, .int .i64 0], .int .i64 1]) ∧ Below w.heap.size w w' := by
  have R := Lib.hid (fun w1 => uright_any a n g w1)
  rw [h] at R
  unfold Uv at R
  obtain ⟨W0, hW0⟩ : ∃ W0, (w.alloc (.cells #[.int .i64 a, .int .i64 n, .int .i64 g] 23)).alloc (.cells #[.int .i64 0, .int .i64 0, .int .i64 0] 44) = W0 := ⟨_, rfl⟩
  obtain ⟨hB, hx, hr, hsz⟩ := of_made w a n g W0 hW0
  have HB := Lib.hid hB
  have HX := Lib.hid hx
  have HR := Lib.hid hr
  have SZ := Lib.hid hsz
  obtain ⟨_, a0, a1, a2⟩ := hx
  clear hB hr hsz h
  go_enter Tryz.func28, Tryz.ntmps28
  go_wp2_with fail
  clear hW0 a0 a1 a2
  refine (R.out _).mono ?_
  rintro e w1 ⟨rfl, hb⟩
  have hr1 := (hb.block (w.heap.size + 1) (by rw [SZ.out]; omega)).trans HR.out
  have HB1 := Lib.hid (HB.out.trans (hb.mono HB.out.size))
  have R1 := Lib.hid hr1
  obtain ⟨_, a0, a1, a2⟩ := HX.out.next hb
  obtain ⟨z0, z1, z2, zf⟩ := tri_cells hr1
  clear hb hr1
  go_wp2_with fail
  refine bodyPost_ret (results_layout (p := 2) (u := 3) rfl _ _ (w.heap.size + 1) _ _ _ _ rfl rfl (three_set R1.out _ _ _)) rfl ⟨rfl, ?_⟩
  exact below_three HB1.out (by omega) _ _ _
theorem told_any (a n g : Int) (w : World) : Calls Tryz.prog 119 #[.agg #[.int .i64 a, .int .i64 n, .int .i64 g]] w fun e w' => e = .returned (.bool (Um.okU a n g)) ∧ Below w.heap.size w w' := by
  have HB : Hid (Below w.heap.size w (w.alloc (.cells #[.int .i64 a, .int .i64 n, .int .i64 g] 44))) := (Below.refl _ w).alloc (Nat.le_refl _) _
  have HX := Lib.hid (ux_alloc w a n g 44)
  obtain ⟨_, a0, a1, a2⟩ := HX.out
  cases hok : Um.okU a n g with
  | true =>
    have C := Lib.hid (fun w1 => of_ok a n g w1 hok)
    obtain ⟨h1, h2, h3, h4, h5, h6⟩ := Um.okU_small hok
    have d0 : (a == 0) = false := by simp; omega
    clear hok h1 h2 h3 h4 h5 h6
    go_enter Tryz.func119, Tryz.ntmps119
    go_wp2_with fail
    refine (C.out _).mono ?_
    rintro e w1 ⟨rfl, hb⟩
    have hb1 := HB.out.trans (hb.mono HB.out.size)
    have HB1 := Lib.hid (hb1.alloc hb1.size (.cells #[.int .i64 a, .int .i64 n, .int .i64 g] 44))
    obtain ⟨_, b0, b1, b2⟩ := ux_alloc w1 a n g 44
    clear hb hb1 a0 a1 a2
    go_wp2_with fail
    go_ret
    exact ⟨rfl, HB1.out⟩
  | false =>
    have C := Lib.hid (fun w1 => of_no a n g w1 hok)
    clear hok
    go_enter Tryz.func119, Tryz.ntmps119
    go_wp2_with fail
    refine (C.out _).mono ?_
    rintro e w1 ⟨rfl, hb⟩
    have hb1 := HB.out.trans (hb.mono HB.out.size)
    have HB1 := Lib.hid (hb1.alloc hb1.size (.cells #[.int .i64 0, .int .i64 0, .int .i64 0] 44))
    obtain ⟨_, b0, b1, b2⟩ := ux_alloc w1 0 0 0 44
    clear hb hb1 a0 a1 a2
    go_wp2_with fail
    go_ret
    exact ⟨rfl, HB1.out⟩
end Go.Proofs.YtbmabcddciibfaaGreat
namespace Go.Proofs.YtbmabcddciibfaaGreat
open Go.RowKit
set_option linter.unusedVariables false
theorem duo_cells {W : World} {g : Nat} {x y : Value} {t : TypeId} (h : W.heap[g]? = some (.cells #[x, y] t (0, 0))) :
    W.cell? ⟨g, 0, none⟩ = some x ∧ W.cell? ⟨g, 1, none⟩ = some y ∧ ∀ j, W.frozen? ⟨g, j, none⟩ = false :=
  ⟨by rw [cell_of_row _ _ _ _ _ _ h]; rfl, by rw [cell_of_row _ _ _ _ _ _ h]; rfl, fun j => frozen_of_row (j := j) _ _ _ _ h⟩
theorem duo_set {w : World} {g : Nat} {a b : Value} {t : TypeId} (h : w.heap[g]? = some (.cells #[a, b] t (0, 0))) (x y : Value) : ((w.setCell ⟨g, 0, none⟩ x).setCell ⟨g, 1, none⟩ y).heap[g]? = some (.cells #[x, y] t (0, 0)) := by
  rw [heap_setCell_same _ _ _ _ _ _ (heap_setCell_same _ _ _ _ _ _ h)]
  rfl
theorem below_duo {B : Nat} {a w : World} {g : Nat} (h : Below B a w) (hg : B ≤ g) (x y : Value) : Below B a ((w.setCell ⟨g, 0, none⟩ x).setCell ⟨g, 1, none⟩ y) :=
  (h.setCell (p := ⟨g, 0, none⟩) hg x).setCell (p := ⟨g, 1, none⟩) hg y
structure Dx (W : World) (k : Nat) (x y : Int) : Prop where
  lt : k < W.heap.size
  c0 : W.cell? ⟨k, 0, none⟩ = some (.int .i64 x)
  c1 : W.cell? ⟨k, 1, none⟩ = some (.int .i64 y)
theorem Dx.next {W W' : World} {k : Nat} {x y : Int} (h : Dx W k x y) (hb : Below W.heap.size W W') : Dx W' k x y :=
  ⟨Nat.lt_of_lt_of_le h.lt hb.size, (hb.cell (p := ⟨k, 0, none⟩) h.lt).trans h.c0, (hb.cell (p := ⟨k, 1, none⟩) h.lt).trans h.c1⟩
theorem below_new (w : World) (o : Obj) : Below w.heap.size w (w.alloc o) := (Below.refl _ w).alloc (Nat.le_refl _) _
end Go.Proofs.YtbmabcddciibfaaGreat
namespace Go.Proofs.YtbmabcddciibfaaGreat
open Go.RowKit
set_option maxRecDepth 100000
set_option linter.unusedVariables false
theorem duo_made (w : World) (a n g : Int) (ty : TypeId) (W0 : World) (h : (w.alloc (.cells #[.int .i64 a, .int .i64 n, .int .i64 g] 44)).alloc (.cells #[.int .i64 0, .int .i64 0] ty) = W0) :
    Below w.heap.size w W0 ∧ Ux W0 w.heap.size a n g ∧ W0.heap[w.heap.size + 1]? = some (.cells #[.int .i64 0, .int .i64 0] ty (0, 0)) ∧ W0.heap.size = w.heap.size + 2 := by
  subst h
  have h1 := ux_alloc w a n g 44
  have h2 := heap_alloc_new (w.alloc (.cells #[.int .i64 a, .int .i64 n, .int .i64 g] 44)) (.cells #[.int .i64 0, .int .i64 0] ty)
  have hs : (w.alloc (.cells #[.int .i64 a, .int .i64 n, .int .i64 g] 44)).heap.size = w.heap.size + 1 := by simp
  rw [hs] at h2
  exact ⟨((Below.refl _ w).alloc (Nat.le_refl _) _).alloc (by simp) _, h1.next ((Below.refl _ _).alloc (Nat.le_refl _) _), h2, by simp⟩
theorem geom_info : (Tryz.prog.info? 137).map (·.size) = some (#[.int .i64 0, .int .i64 0] : Array Value).size := by kernel_rfl
theorem extent_info : (Tryz.prog.info? 25).map (·.size) = some (#[.int .i64 0, .int .i64 0] : Array Value).size := by kernel_rfl
theorem lgeom_ok (a n g : Int) (w : World) (h : Um.okU a n g = true) : Calls Tryz.prog 86 #[.agg #[.int .i64 a, .int .i64 n, .int .i64 g]] w fun e w' => e = .returned (.agg #[.int .i64 (n), .int .i64 (g)]) ∧ Below w.heap.size w w' := by
  have R := Lib.hid (fun w1 => told_any a n g w1)
  rw [h] at R
  obtain ⟨h1, h2, h3, h4, h5, h6⟩ := Um.okU_small h
  clear h1 h2 h3 h4 h5 h6
  obtain ⟨W0, hW0⟩ : ∃ W0, (w.alloc (.cells #[.int .i64 a, .int .i64 n, .int .i64 g] 44)).alloc (.cells #[.int .i64 0, .int .i64 0] 137) = W0 := ⟨_, rfl⟩
  obtain ⟨hB, hx, hr, hsz⟩ := duo_made w a n g 137 W0 hW0
  have HB := Lib.hid hB
  have HX := Lib.hid hx
  have HR := Lib.hid hr
  have SZ := Lib.hid hsz
  obtain ⟨_, a0, a1, a2⟩ := hx
  clear hB hr hsz h
  go_enter Tryz.func86, Tryz.ntmps86
  go_wp2_with fail
  clear hW0 a0 a1 a2
  refine (R.out _).mono ?_
  rintro e w1 ⟨rfl, hb⟩
  have hr1 := (hb.block (w.heap.size + 1) (by rw [SZ.out]; omega)).trans HR.out
  have HB1 := Lib.hid (HB.out.trans (hb.mono HB.out.size))
  have R1 := Lib.hid hr1
  obtain ⟨_, a0, a1, a2⟩ := HX.out.next hb
  obtain ⟨z0, z1, zf⟩ := duo_cells hr1
  clear hb hr1
  go_wp2_with fail
  refine bodyPost_ret (results_cell_row (p := 2) (ty := 137) rfl _ _ (w.heap.size + 1) 137 _ (0, 0) _ rfl (duo_set R1.out _ _) Tryz.underlying137 rfl geom_info) rfl ⟨rfl, ?_⟩
  exact below_duo HB1.out (by omega) _ _
theorem lstores_ok (a n g : Int) (w : World) (h : Um.okU a n g = true) : Calls Tryz.prog 84 #[.agg #[.int .i64 a, .int .i64 n, .int .i64 g]] w fun e w' => e = .returned (.agg #[.int .i64 (17 + n), .int .i64 (a - (17 + n))]) ∧ Below w.heap.size w w' := by
  have R := Lib.hid (fun w1 => told_any a n g w1)
  rw [h] at R
  obtain ⟨h1, h2, h3, h4, h5, h6⟩ := Um.okU_small h
  have e1 : IntKind.i64.wrap (17 + n) = 17 + n := IntWalk.i64_in _ (by omega)
  have e2 : IntKind.i64.wrap (a - (17 + n)) = a - (17 + n) := IntWalk.i64_in _ (by omega)
  clear h1 h2 h3 h4 h5 h6
  obtain ⟨W0, hW0⟩ : ∃ W0, (w.alloc (.cells #[.int .i64 a, .int .i64 n, .int .i64 g] 44)).alloc (.cells #[.int .i64 0, .int .i64 0] 25) = W0 := ⟨_, rfl⟩
  obtain ⟨hB, hx, hr, hsz⟩ := duo_made w a n g 25 W0 hW0
  have HB := Lib.hid hB
  have HX := Lib.hid hx
  have HR := Lib.hid hr
  have SZ := Lib.hid hsz
  obtain ⟨_, a0, a1, a2⟩ := hx
  clear hB hr hsz h
  go_enter Tryz.func84, Tryz.ntmps84
  go_wp2_with fail
  clear hW0 a0 a1 a2
  refine (R.out _).mono ?_
  rintro e w1 ⟨rfl, hb⟩
  have hr1 := (hb.block (w.heap.size + 1) (by rw [SZ.out]; omega)).trans HR.out
  have HB1 := Lib.hid (HB.out.trans (hb.mono HB.out.size))
  have R1 := Lib.hid hr1
  obtain ⟨_, a0, a1, a2⟩ := HX.out.next hb
  obtain ⟨z0, z1, zf⟩ := duo_cells hr1
  clear hb hr1
  go_wp2_with fail
  refine bodyPost_ret (results_cell_row (p := 2) (ty := 25) rfl _ _ (w.heap.size + 1) 25 _ (0, 0) _ rfl (duo_set R1.out _ _) Tryz.underlying25 rfl extent_info) rfl ⟨rfl, ?_⟩
  exact below_duo HB1.out (by omega) _ _
end Go.Proofs.YtbmabcddciibfaaGreat
namespace Go.Proofs.YtbmabcddciibfaaGreat
open Go.RowKit
set_option maxRecDepth 100000
set_option linter.unusedVariables false
def inB (p m s l : Int) : Bool := decide (0 ≤ m) && (decide (s ≤ p) && decide (m ≤ s + l - p))
theorem inB_iff (p m s l : Int) : inB p m s l = true ↔ 0 ≤ m ∧ s ≤ p ∧ m ≤ s + l - p := by
  unfold inB; simp
theorem within_made (w : World) (p m s l : Int) (W0 : World) (h : (w.alloc (.cells #[.int .i64 p, .int .i64 m] 25)).alloc (.cells #[.int .i64 s, .int .i64 l] 25) = W0) :
    Below w.heap.size w W0 ∧ W0.cell? ⟨w.heap.size, 0, none⟩ = some (.int .i64 p) ∧ W0.cell? ⟨w.heap.size, 1, none⟩ = some (.int .i64 m) ∧
    W0.cell? ⟨w.heap.size + 1, 0, none⟩ = some (.int .i64 s) ∧ W0.cell? ⟨w.heap.size + 1, 1, none⟩ = some (.int .i64 l) := by
  subst h
  have h1 := heap_alloc_new w (.cells #[.int .i64 p, .int .i64 m] 25)
  have h2 := heap_alloc_new (w.alloc (.cells #[.int .i64 p, .int .i64 m] 25)) (.cells #[.int .i64 s, .int .i64 l] 25)
  have hs : (w.alloc (.cells #[.int .i64 p, .int .i64 m] 25)).heap.size = w.heap.size + 1 := by simp
  rw [hs] at h2
  have hb : Below (w.heap.size + 1) (w.alloc (.cells #[.int .i64 p, .int .i64 m] 25)) ((w.alloc (.cells #[.int .i64 p, .int .i64 m] 25)).alloc (.cells #[.int .i64 s, .int .i64 l] 25)) := (Below.refl _ _).alloc (by simp) _
  have h1' := (hb.block w.heap.size (by omega)).trans h1
  obtain ⟨a0, a1, _⟩ := duo_cells h1'
  obtain ⟨b0, b1, _⟩ := duo_cells h2
  exact ⟨((Below.refl _ w).alloc (Nat.le_refl _) _).alloc (by simp) _, a0, a1, b0, b1⟩
theorem within_any (p m s l : Int) (w : World) (hp : p ≤ 9223372036854775807) (h0 : 0 ≤ s) (h1 : 0 ≤ s + l) (h2 : s + l ≤ 1048576) :
    Calls Tryz.prog 120 #[.agg #[.int .i64 p, .int .i64 m], .agg #[.int .i64 s, .int .i64 l]] w fun e w' => e = .returned (.bool (inB p m s l)) ∧ Below w.heap.size w w' := by
  obtain ⟨W0, hW0⟩ : ∃ W0, (w.alloc (.cells #[.int .i64 p, .int .i64 m] 25)).alloc (.cells #[.int .i64 s, .int .i64 l] 25) = W0 := ⟨_, rfl⟩
  obtain ⟨hB, a0, a1, b0, b1⟩ := within_made w p m s l W0 hW0
  have HB := Lib.hid hB
  clear hB
  by_cases c1 : 0 ≤ m
  · have d1 : decide (0 ≤ m) = true := by simpa using c1
    by_cases c2 : s ≤ p
    · have d2 : decide (s ≤ p) = true := by simpa using c2
      have e1 : IntKind.i64.wrap (s + l) = s + l := IntWalk.i64_in _ (by omega)
      have e2 : IntKind.i64.wrap (s + l - p) = s + l - p := IntWalk.i64_in _ (by omega)
      have HR := Lib.hid (show inB p m s l = decide (m ≤ s + l - p) by unfold inB; rw [d1, d2]; rfl)
      clear c1 c2 hp h0 h1 h2
      go_enter Tryz.func120, Tryz.ntmps120
      go_wp2_with fail
      clear hW0
      go_wp2_with fail
      go_ret
      exact ⟨by rw [HR.out]; rfl, HB.out⟩
    · have d2 : decide (s ≤ p) = false := by simpa using c2
      have HR := Lib.hid (show inB p m s l = false by unfold inB; rw [d1, d2]; rfl)
      clear c1 c2 hp h0 h1 h2
      go_enter Tryz.func120, Tryz.ntmps120
      go_wp2_with fail
      clear hW0
      go_wp2_with fail
      go_ret
      exact ⟨by rw [HR.out]; rfl, HB.out⟩
  · have d1 : decide (0 ≤ m) = false := by simpa using c1
    have HR := Lib.hid (show inB p m s l = false by unfold inB; rw [d1]; rfl)
    clear c1 hp h0 h1 h2
    go_enter Tryz.func120, Tryz.ntmps120
    go_wp2_with fail
    clear hW0
    go_wp2_with fail
    go_ret
    exact ⟨by rw [HR.out]; rfl, HB.out⟩
theorem pair_made (w : World) (a n g p m : Int) (W0 : World) (h : (w.alloc (.cells #[.int .i64 a, .int .i64 n, .int .i64 g] 44)).alloc (.cells #[.int .i64 p, .int .i64 m] 25) = W0) :
    Below w.heap.size w W0 ∧ Ux W0 w.heap.size a n g ∧ W0.cell? ⟨w.heap.size + 1, 0, none⟩ = some (.int .i64 p) ∧ W0.cell? ⟨w.heap.size + 1, 1, none⟩ = some (.int .i64 m) ∧ W0.heap.size = w.heap.size + 2 := by
  subst h
  have h1 := ux_alloc w a n g 44
  have h2 := heap_alloc_new (w.alloc (.cells #[.int .i64 a, .int .i64 n, .int .i64 g] 44)) (.cells #[.int .i64 p, .int .i64 m] 25)
  have hs : (w.alloc (.cells #[.int .i64 a, .int .i64 n, .int .i64 g] 44)).heap.size = w.heap.size + 1 := by simp
  rw [hs] at h2
  obtain ⟨b0, b1, _⟩ := duo_cells h2
  exact ⟨((Below.refl _ w).alloc (Nat.le_refl _) _).alloc (by simp) _, h1.next ((Below.refl _ _).alloc (Nat.le_refl _) _), b0, b1, by simp⟩
theorem stores_small {a n g : Int} (h : Um.okU a n g = true) : 0 ≤ 17 + n ∧ 0 ≤ 17 + n + (a - (17 + n)) ∧ 17 + n + (a - (17 + n)) ≤ 1048576 := by
  obtain ⟨h1, h2, h3, h4, h5, h6⟩ := Um.okU_small h
  omega
theorem lroom_out (a n g p m : Int) (w : World) (h : Um.okU a n g = true) (hp : p ≤ 9223372036854775807) (hi : inB p m (17 + n) (a - (17 + n)) = false) :
    Calls Tryz.prog 83 #[.agg #[.int .i64 a, .int .i64 n, .int .i64 g], .agg #[.int .i64 p, .int .i64 m]] w fun e w' => e = .returned (.tuple #[.int .i64 0, .int .i64 2]) ∧ Below w.heap.size w w' := by
  have R := Lib.hid (fun w1 => told_any a n g w1)
  rw [h] at R
  obtain ⟨h1, h2, h3⟩ := stores_small h
  have C := Lib.hid (fun w1 => lstores_ok a n g w1 h)
  have D := Lib.hid (fun w1 => within_any p m (17 + n) (a - (17 + n)) w1 hp h1 h2 h3)
  rw [hi] at D
  obtain ⟨s, hs⟩ : ∃ s, s = 17 + n := ⟨_, rfl⟩
  obtain ⟨l, hl⟩ : ∃ l, l = a - (17 + n) := ⟨_, rfl⟩
  rw [← hl] at C D
  rw [← hs] at C D
  obtain ⟨W0, hW0⟩ : ∃ W0, (w.alloc (.cells #[.int .i64 a, .int .i64 n, .int .i64 g] 44)).alloc (.cells #[.int .i64 p, .int .i64 m] 25) = W0 := ⟨_, rfl⟩
  obtain ⟨hB, hx, b0, b1, hsz⟩ := pair_made w a n g p m W0 hW0
  have HB := Lib.hid hB
  have HX := Lib.hid hx
  have hlt : w.heap.size + 1 < W0.heap.size := by omega
  obtain ⟨_, a0, a1, a2⟩ := hx
  clear h hB hsz hi hs hl h1 h2 h3 hp
  go_enter Tryz.func83, Tryz.ntmps83
  go_wp2_with fail
  clear hW0
  refine (R.out _).mono ?_
  rintro e w1 ⟨rfl, hb⟩
  replace b0 := (hb.cell (p := ⟨w.heap.size + 1, 0, none⟩) hlt).trans b0
  replace b1 := (hb.cell (p := ⟨w.heap.size + 1, 1, none⟩) hlt).trans b1
  have HB1 := Lib.hid (HB.out.trans (hb.mono HB.out.size))
  clear a0 a1 a2
  obtain ⟨lt0, a0, a1, a2⟩ := HX.out.next hb
  replace hlt : w.heap.size + 1 < w1.heap.size := Nat.lt_of_lt_of_le hlt hb.size
  clear hb
  go_wp2_with fail
  go_region_held3 (fun w' => (w'.cell? ⟨w.heap.size, 0, none⟩ = some (.int .i64 a) ∧ w'.cell? ⟨w.heap.size, 1, none⟩ = some (.int .i64 n) ∧ w'.cell? ⟨w.heap.size, 2, none⟩ = some (.int .i64 g)) ∧ w'.cell? ⟨w.heap.size + 1, 0, none⟩ = some (.int .i64 p) ∧ w'.cell? ⟨w.heap.size + 1, 1, none⟩ = some (.int .i64 m))
    (first | go_keep | (refine ⟨⟨?_, ?_, ?_⟩, ?_, ?_⟩ <;> assumption) | (exact ⟨⟨(BX.out.cell (p := ⟨w.heap.size, 0, none⟩) lt0).trans a0, (BX.out.cell (p := ⟨w.heap.size, 1, none⟩) lt0).trans a1, (BX.out.cell (p := ⟨w.heap.size, 2, none⟩) lt0).trans a2⟩, (BX.out.cell (p := ⟨w.heap.size + 1, 0, none⟩) hlt).trans b0, (BX.out.cell (p := ⟨w.heap.size + 1, 1, none⟩) hlt).trans b1⟩))
    (first | (go_at_call 84; refine (C.out _).mono ?_; rintro e w2 ⟨rfl, hb2⟩; have BX : Hid (Below w1.heap.size w1 w2) := (Below.refl _ _).drew.trans hb2; have B1 := BX; clear hb2) | (go_at_call 120; refine (D.out _).mono ?_; rintro e w3 ⟨rfl, hb3⟩; have BX : Hid (Below w1.heap.size w1 w3) := B1.out.trans (hb3.mono B1.out.size); clear hb3))
  go_wp2_with fail
  go_ret2
  exact ⟨rfl, HB1.out.trans (BX.out.mono HB1.out.size)⟩
theorem lroom_ok (a n g p : Int) (m : Nat) (w : World) (h : Um.okU a n g = true) (hp : p ≤ 9223372036854775807) (hi : inB p m (17 + n) (a - (17 + n)) = true) :
    Calls Tryz.prog 83 #[.agg #[.int .i64 a, .int .i64 n, .int .i64 g], .agg #[.int .i64 p, .int .i64 (m : Int)]] w fun e w' => e = .returned (.tuple #[.int .i64 (Em.room g.toNat m : Nat), .int .i64 (Geo.noneE (Em.room g.toNat m))]) ∧ Below w.heap.size w w' := by
  have R := Lib.hid (fun w1 => told_any a n g w1)
  rw [h] at R
  obtain ⟨h1, h2, h3⟩ := stores_small h
  obtain ⟨k1, k2, k3, k4, k5, k6⟩ := Um.okU_small h
  obtain ⟨i1, i2, i3⟩ := (inB_iff _ _ _ _).1 hi
  have C := Lib.hid (fun w1 => lstores_ok a n g w1 h)
  have D := Lib.hid (fun w1 => within_any p m (17 + n) (a - (17 + n)) w1 hp h1 h2 h3)
  rw [hi] at D
  have G := Lib.hid (fun w1 => lgeom_ok a n g w1 h)
  have hr : Em.rightB n g = true := (Em.right_iff n g).2 ⟨k1, k2, k3, k4⟩
  obtain ⟨N, hN⟩ : ∃ N : Nat, n = (N : Int) := ⟨n.toNat, by omega⟩
  obtain ⟨K, hK⟩ : ∃ K : Nat, g = (K : Int) := ⟨g.toNat, by omega⟩
  have E : Hid (∀ w1 : World, Calls Tryz.prog 121 #[.agg #[.int .i64 n, .int .i64 g], .int .i64 (m : Int)] w1 fun e w' => e = .returned (.tuple #[.int .i64 (Em.room g.toNat m : Nat), .int .i64 (Geo.noneE (Em.room g.toNat m))]) ∧ Below w1.heap.size w1 w') := fun w1 => by
    rw [hN, hK] at hr ⊢
    exact Geo.room_ok N K m w1 hr (by omega)
  obtain ⟨r, hre⟩ : ∃ r, r = Em.room g.toNat m := ⟨_, rfl⟩
  rw [← hre] at E ⊢
  obtain ⟨e, he⟩ : ∃ e, e = Geo.noneE r := ⟨_, rfl⟩
  rw [← he] at E ⊢
  obtain ⟨s, hs⟩ : ∃ s, s = 17 + n := ⟨_, rfl⟩
  obtain ⟨l, hl⟩ : ∃ l, l = a - (17 + n) := ⟨_, rfl⟩
  rw [← hl] at C D
  rw [← hs] at C D
  obtain ⟨M, hM⟩ : ∃ M, M = (m : Int) := ⟨_, rfl⟩
  rw [← hM] at D E ⊢
  obtain ⟨W0, hW0⟩ : ∃ W0, (w.alloc (.cells #[.int .i64 a, .int .i64 n, .int .i64 g] 44)).alloc (.cells #[.int .i64 p, .int .i64 M] 25) = W0 := ⟨_, rfl⟩
  obtain ⟨hB, hx, b0, b1, hsz⟩ := pair_made w a n g p M W0 hW0
  have HB := Lib.hid hB
  have HX := Lib.hid hx
  have hlt : w.heap.size + 1 < W0.heap.size := by omega
  obtain ⟨_, a0, a1, a2⟩ := hx
  clear h hB hsz hi hs hl h1 h2 h3 hp k1 k2 k3 k4 k5 k6 i1 i2 i3 hr hN hK hre he hM
  go_enter Tryz.func83, Tryz.ntmps83
  go_wp2_with fail
  clear hW0
  refine (R.out _).mono ?_
  rintro e w1 ⟨rfl, hb⟩
  replace b0 := (hb.cell (p := ⟨w.heap.size + 1, 0, none⟩) hlt).trans b0
  replace b1 := (hb.cell (p := ⟨w.heap.size + 1, 1, none⟩) hlt).trans b1
  have HB1 := Lib.hid (HB.out.trans (hb.mono HB.out.size))
  have HX1 := Lib.hid (HX.out.next hb)
  clear a0 a1 a2
  obtain ⟨lt0, a0, a1, a2⟩ := HX1.out
  replace hlt : w.heap.size + 1 < w1.heap.size := Nat.lt_of_lt_of_le hlt hb.size
  clear hb
  go_wp2_with fail
  go_region_held3 (fun w' => (w'.cell? ⟨w.heap.size, 0, none⟩ = some (.int .i64 a) ∧ w'.cell? ⟨w.heap.size, 1, none⟩ = some (.int .i64 n) ∧ w'.cell? ⟨w.heap.size, 2, none⟩ = some (.int .i64 g)) ∧ w'.cell? ⟨w.heap.size + 1, 0, none⟩ = some (.int .i64 p) ∧ w'.cell? ⟨w.heap.size + 1, 1, none⟩ = some (.int .i64 M))
    (first | go_keep | (refine ⟨⟨?_, ?_, ?_⟩, ?_, ?_⟩ <;> assumption) | (exact ⟨⟨(BX.out.cell (p := ⟨w.heap.size, 0, none⟩) lt0).trans a0, (BX.out.cell (p := ⟨w.heap.size, 1, none⟩) lt0).trans a1, (BX.out.cell (p := ⟨w.heap.size, 2, none⟩) lt0).trans a2⟩, (BX.out.cell (p := ⟨w.heap.size + 1, 0, none⟩) hlt).trans b0, (BX.out.cell (p := ⟨w.heap.size + 1, 1, none⟩) hlt).trans b1⟩))
    (first | (go_at_call 84; refine (C.out _).mono ?_; rintro e w2 ⟨rfl, hb2⟩; have BX : Hid (Below w1.heap.size w1 w2) := (Below.refl _ _).drew.trans hb2; have B1 := BX; clear hb2) | (go_at_call 120; refine (D.out _).mono ?_; rintro e w3 ⟨rfl, hb3⟩; have BX : Hid (Below w1.heap.size w1 w3) := B1.out.trans (hb3.mono B1.out.size); clear hb3))
  have HB3 := Lib.hid (HB1.out.trans (BX.out.mono HB1.out.size))
  replace b0 := (BX.out.cell (p := ⟨w.heap.size + 1, 0, none⟩) hlt).trans b0
  replace b1 := (BX.out.cell (p := ⟨w.heap.size + 1, 1, none⟩) hlt).trans b1
  clear lt0 a0 a1 a2
  obtain ⟨lt0, a0, a1, a2⟩ := HX1.out.next BX.out
  replace hlt : w.heap.size + 1 < w3.heap.size := Nat.lt_of_lt_of_le hlt BX.out.size
  clear BX B1
  go_wp2_with fail
  go_region_held3 (fun w' => (w'.cell? ⟨w.heap.size, 0, none⟩ = some (.int .i64 a) ∧ w'.cell? ⟨w.heap.size, 1, none⟩ = some (.int .i64 n) ∧ w'.cell? ⟨w.heap.size, 2, none⟩ = some (.int .i64 g)) ∧ w'.cell? ⟨w.heap.size + 1, 0, none⟩ = some (.int .i64 p) ∧ w'.cell? ⟨w.heap.size + 1, 1, none⟩ = some (.int .i64 M))
    (first | go_keep | (refine ⟨⟨?_, ?_, ?_⟩, ?_, ?_⟩ <;> assumption) | (exact ⟨⟨(BX.out.cell (p := ⟨w.heap.size, 0, none⟩) lt0).trans a0, (BX.out.cell (p := ⟨w.heap.size, 1, none⟩) lt0).trans a1, (BX.out.cell (p := ⟨w.heap.size, 2, none⟩) lt0).trans a2⟩, (BX.out.cell (p := ⟨w.heap.size + 1, 0, none⟩) hlt).trans b0, (BX.out.cell (p := ⟨w.heap.size + 1, 1, none⟩) hlt).trans b1⟩))
    (first | (go_at_call 86; refine (G.out _).mono ?_; rintro e w4 ⟨rfl, hb4⟩; have BX : Hid (Below w3.heap.size w3 w4) := (Below.refl _ _).drew.trans hb4; have B1 := BX; clear hb4) | (go_at_call 121; refine (E.out _).mono ?_; rintro e w5 ⟨rfl, hb5⟩; have BX : Hid (Below w3.heap.size w3 w5) := B1.out.trans (hb5.mono B1.out.size); clear hb5))
  go_wp2_with fail
  go_ret2
  exact ⟨rfl, HB3.out.trans (BX.out.mono HB3.out.size)⟩
end Go.Proofs.YtbmabcddciibfaaGreat
namespace Go.Proofs.YtbmabcddciibfaaGreat
open Go.RowKit
set_option maxRecDepth 100000
set_option linter.unusedVariables false
def RoomIs (a n g p m r e : Int) : Prop := ∀ w1 : World, Calls Tryz.prog 83 #[.agg #[.int .i64 a, .int .i64 n, .int .i64 g], .agg #[.int .i64 p, .int .i64 m]] w1 fun x w' => x = .returned (.tuple #[.int .i64 r, .int .i64 e]) ∧ Below w1.heap.size w1 w'
theorem lpage_err (a n g p m i r e : Int) (w : World) (hr : RoomIs a n g p m r e) (he : e ≠ 0) :
    Calls Tryz.prog 124 #[.agg #[.int .i64 a, .int .i64 n, .int .i64 g], .agg #[.int .i64 p, .int .i64 m], .int .i64 i] w fun x w' => x = .returned (.tuple #[.int .i64 0, .int .i64 e]) ∧ Below w.heap.size w w' := by
  have R := Lib.hid hr
  unfold RoomIs at R
  have hd : (e != 0) = true := by simpa using he
  obtain ⟨W0, hW0⟩ : ∃ W0, (w.alloc (.cells #[.int .i64 a, .int .i64 n, .int .i64 g] 44)).alloc (.cells #[.int .i64 p, .int .i64 m] 25) = W0 := ⟨_, rfl⟩
  obtain ⟨hB, ⟨_, a0, a1, a2⟩, b0, b1, hsz⟩ := pair_made w a n g p m W0 hW0
  have HB := Lib.hid hB
  clear hr he hB hsz
  go_enter Tryz.func124, Tryz.ntmps124
  go_wp2_with fail
  clear hW0
  refine (R.out _).mono ?_
  rintro e w1 ⟨rfl, hb⟩
  have HB1 := Lib.hid (HB.out.trans (hb.mono HB.out.size))
  clear hb a0 a1 a2 b0 b1
  go_wp2_with fail
  go_ret2
  exact ⟨rfl, HB1.out⟩
theorem lpage_low (a n g p m i r : Int) (w : World) (hr : RoomIs a n g p m r 0) (hi : i < 0) :
    Calls Tryz.prog 124 #[.agg #[.int .i64 a, .int .i64 n, .int .i64 g], .agg #[.int .i64 p, .int .i64 m], .int .i64 i] w fun x w' => x = .returned (.tuple #[.int .i64 0, .int .i64 2]) ∧ Below w.heap.size w w' := by
  have R := Lib.hid hr
  unfold RoomIs at R
  have hd : decide (i < 0) = true := by simpa using hi
  obtain ⟨W0, hW0⟩ : ∃ W0, (w.alloc (.cells #[.int .i64 a, .int .i64 n, .int .i64 g] 44)).alloc (.cells #[.int .i64 p, .int .i64 m] 25) = W0 := ⟨_, rfl⟩
  obtain ⟨hB, ⟨_, a0, a1, a2⟩, b0, b1, hsz⟩ := pair_made w a n g p m W0 hW0
  have HB := Lib.hid hB
  clear hr hi hB hsz
  go_enter Tryz.func124, Tryz.ntmps124
  go_wp2_with fail
  clear hW0
  refine (R.out _).mono ?_
  rintro e w1 ⟨rfl, hb⟩
  have HB1 := Lib.hid (HB.out.trans (hb.mono HB.out.size))
  clear hb a0 a1 a2 b0 b1
  go_wp2_with fail
  go_ret2
  exact ⟨rfl, HB1.out⟩
theorem lpage_high (a n g p m i : Int) (r : Nat) (w : World) (h : Um.okU a n g = true) (hr : RoomIs a n g p m r 0) (hi : 0 ≤ i) (hr2 : r ≤ 1048576) (hh : (Em.parts r 13 : Nat) ≤ i) :
    Calls Tryz.prog 124 #[.agg #[.int .i64 a, .int .i64 n, .int .i64 g], .agg #[.int .i64 p, .int .i64 m], .int .i64 i] w fun x w' => x = .returned (.tuple #[.int .i64 0, .int .i64 2]) ∧ Below w.heap.size w w' := by
  have R := Lib.hid hr
  unfold RoomIs at R
  have G := Lib.hid (fun w1 => lgeom_ok a n g w1 h)
  obtain ⟨k1, k2, k3, k4, k5, k6⟩ := Um.okU_small h
  have P := Lib.hid (fun w1 => Geo.pages_ok n g r w1 ((Em.right_iff n g).2 ⟨k1, k2, k3, k4⟩) (by omega))
  obtain ⟨P13, hP⟩ : ∃ q, q = ((Em.parts r 13 : Nat) : Int) := ⟨_, rfl⟩
  rw [← hP] at P hh
  obtain ⟨rr, hrr⟩ : ∃ q, q = (r : Int) := ⟨_, rfl⟩
  rw [← hrr] at P R
  have hd : decide (i < 0) = false := by simp; omega
  have hd2 : decide (P13 ≤ i) = true := by simpa using hh
  obtain ⟨W0, hW0⟩ : ∃ W0, (w.alloc (.cells #[.int .i64 a, .int .i64 n, .int .i64 g] 44)).alloc (.cells #[.int .i64 p, .int .i64 m] 25) = W0 := ⟨_, rfl⟩
  obtain ⟨hB, hx, b0, b1, hsz⟩ := pair_made w a n g p m W0 hW0
  have HB := Lib.hid hB
  have HX := Lib.hid hx
  obtain ⟨_, a0, a1, a2⟩ := hx
  clear h hr hi hr2 hh hB hsz k1 k2 k3 k4 k5 k6 hP hrr
  go_enter Tryz.func124, Tryz.ntmps124
  go_wp2_with fail
  clear hW0
  refine (R.out _).mono ?_
  rintro e w1 ⟨rfl, hb⟩
  have HB1 := Lib.hid (HB.out.trans (hb.mono HB.out.size))
  clear a0 a1 a2 b0 b1
  obtain ⟨lt0, a0, a1, a2⟩ := HX.out.next hb
  clear hb
  go_wp2_with fail
  refine (G.out _).mono ?_
  rintro e w2 ⟨rfl, hb⟩
  have HB2 := Lib.hid (HB1.out.trans (hb.mono HB1.out.size))
  clear hb a0 a1 a2
  go_wp2_with fail
  refine (P.out _).mono ?_
  rintro e w3 ⟨rfl, hb⟩
  have HB3 := Lib.hid (HB2.out.trans (hb.mono HB2.out.size))
  clear hb
  go_wp2_with fail
  go_ret2
  exact ⟨rfl, HB3.out⟩
theorem lpage_ok (a n g p m i : Int) (r : Nat) (w : World) (h : Um.okU a n g = true) (hr : RoomIs a n g p m r 0) (hi : 0 ≤ i) (hr2 : r ≤ 1048576) (hh : i < (Em.parts r 13 : Nat)) (hp : 0 ≤ p) (hp2 : p ≤ 1048576) :
    Calls Tryz.prog 124 #[.agg #[.int .i64 a, .int .i64 n, .int .i64 g], .agg #[.int .i64 p, .int .i64 m], .int .i64 i] w fun x w' => x = .returned (.tuple #[.int .i64 (p + 1 + i), .int .i64 0]) ∧ Below w.heap.size w w' := by
  have R := Lib.hid hr
  unfold RoomIs at R
  have G := Lib.hid (fun w1 => lgeom_ok a n g w1 h)
  obtain ⟨k1, k2, k3, k4, k5, k6⟩ := Um.okU_small h
  have P := Lib.hid (fun w1 => Geo.pages_ok n g r w1 ((Em.right_iff n g).2 ⟨k1, k2, k3, k4⟩) (by omega))
  have hle := Em.parts_le r 13
  obtain ⟨P13, hP⟩ : ∃ q, q = ((Em.parts r 13 : Nat) : Int) := ⟨_, rfl⟩
  rw [← hP] at P hh
  obtain ⟨rr, hrr⟩ : ∃ q, q = (r : Int) := ⟨_, rfl⟩
  rw [← hrr] at P R
  have hd : decide (i < 0) = false := by simp; omega
  have hd2 : decide (P13 ≤ i) = false := by simpa using hh
  have e1 : IntKind.i64.wrap (p + 1) = p + 1 := IntWalk.i64_in _ (by omega)
  have e2 : IntKind.i64.wrap (p + 1 + i) = p + 1 + i := IntWalk.i64_in _ (by omega)
  obtain ⟨W0, hW0⟩ : ∃ W0, (w.alloc (.cells #[.int .i64 a, .int .i64 n, .int .i64 g] 44)).alloc (.cells #[.int .i64 p, .int .i64 m] 25) = W0 := ⟨_, rfl⟩
  obtain ⟨hB, hx, b0, b1, hsz⟩ := pair_made w a n g p m W0 hW0
  have HB := Lib.hid hB
  have HX := Lib.hid hx
  have hlt : w.heap.size + 1 < W0.heap.size := by omega
  obtain ⟨_, a0, a1, a2⟩ := hx
  clear h hr hi hr2 hh hB hsz k1 k2 k3 k4 k5 k6 hP hrr hp hp2 hle
  go_enter Tryz.func124, Tryz.ntmps124
  go_wp2_with fail
  clear hW0
  refine (R.out _).mono ?_
  rintro e w1 ⟨rfl, hb⟩
  have HB1 := Lib.hid (HB.out.trans (hb.mono HB.out.size))
  clear a0 a1 a2
  obtain ⟨lt0, a0, a1, a2⟩ := HX.out.next hb
  replace b0 := (hb.cell (p := ⟨w.heap.size + 1, 0, none⟩) hlt).trans b0
  replace hlt : w.heap.size + 1 < w1.heap.size := Nat.lt_of_lt_of_le hlt hb.size
  clear hb b1
  go_wp2_with fail
  refine (G.out _).mono ?_
  rintro e w2 ⟨rfl, hb⟩
  have HB2 := Lib.hid (HB1.out.trans (hb.mono HB1.out.size))
  replace b0 := (hb.cell (p := ⟨w.heap.size + 1, 0, none⟩) hlt).trans b0
  replace hlt : w.heap.size + 1 < w2.heap.size := Nat.lt_of_lt_of_le hlt hb.size
  clear hb a0 a1 a2
  go_wp2_with fail
  refine (P.out _).mono ?_
  rintro e w3 ⟨rfl, hb⟩
  have HB3 := Lib.hid (HB2.out.trans (hb.mono HB2.out.size))
  replace b0 := (hb.cell (p := ⟨w.heap.size + 1, 0, none⟩) hlt).trans b0
  clear hb
  go_wp2_with fail
  go_ret2
  exact ⟨rfl, HB3.out⟩
end Go.Proofs.YtbmabcddciibfaaGreat
namespace Go.Proofs.YtbmabcddciibfaaGreat
open Go.RowKit
set_option maxRecDepth 100000
set_option linter.unusedVariables false
theorem results_ext {fn : Func} {p u : Tmp} (h : fn.results = #[.cell p 25, .tmp u]) (tmps : Array Value) (w : World) (g : Nat) (x y v : Value)
    (hp : tmps.getD p undef = .pointer (some ⟨g, 0, none⟩)) (hu : tmps.getD u undef = v) (hg : w.heap[g]? = some (.cells #[x, y] 25 (0, 0))) :
    (results fn tmps).run Tryz.prog w = .ok (.tuple #[.agg #[x, y], v]) w := by
  have hi : (Tryz.prog.info? 25).map (·.size) = some (#[x, y] : Array Value).size := by show _ = some 2; kernel_rfl
  rw [results_cell_tmp h, hp, hu]
  simp [asAddr, run_loadVar_row w g 25 25 #[x, y] (0, 0) _ hg Tryz.underlying25 rfl hi, Result.andThen]
theorem chunk_made (w : World) (a n g p m : Int) (W0 : World) (h : ((w.alloc (.cells #[.int .i64 a, .int .i64 n, .int .i64 g] 44)).alloc (.cells #[.int .i64 p, .int .i64 m] 25)).alloc (.cells #[.int .i64 0, .int .i64 0] 25) = W0) :
    Below w.heap.size w W0 ∧ Ux W0 w.heap.size a n g ∧ W0.cell? ⟨w.heap.size + 1, 0, none⟩ = some (.int .i64 p) ∧ W0.cell? ⟨w.heap.size + 1, 1, none⟩ = some (.int .i64 m) ∧
    W0.heap[w.heap.size + 2]? = some (.cells #[.int .i64 0, .int .i64 0] 25 (0, 0)) ∧ W0.heap.size = w.heap.size + 3 := by
  subst h
  obtain ⟨hB, hx, b0, b1, hs⟩ := pair_made w a n g p m _ rfl
  obtain ⟨W1, hW1⟩ : ∃ W1, (w.alloc (.cells #[.int .i64 a, .int .i64 n, .int .i64 g] 44)).alloc (.cells #[.int .i64 p, .int .i64 m] 25) = W1 := ⟨_, rfl⟩
  rw [hW1] at hB hx b0 b1 hs ⊢
  have h2 := heap_alloc_new W1 (.cells #[.int .i64 0, .int .i64 0] 25)
  have hb : Below W1.heap.size W1 (W1.alloc (.cells #[.int .i64 0, .int .i64 0] 25)) := (Below.refl _ _).alloc (Nat.le_refl _) _
  rw [hs] at h2
  exact ⟨hB.trans (hb.mono hB.size), hx.next hb, (hb.cell (p := ⟨w.heap.size + 1, 0, none⟩) (by simp [hs])).trans b0, (hb.cell (p := ⟨w.heap.size + 1, 1, none⟩) (by simp [hs])).trans b1, h2, by simp [hs]⟩
theorem lchunk_ok (a n g p m i : Int) (r : Nat) (w : World) (h : Um.okU a n g = true) (hr : RoomIs a n g p m r 0) (hi : 0 ≤ i) (hr2 : r ≤ 1048576) (hh : i < r) (hp : 0 ≤ p) (hp2 : p ≤ 1048576) :
    Calls Tryz.prog 95 #[.agg #[.int .i64 a, .int .i64 n, .int .i64 g], .agg #[.int .i64 p, .int .i64 m], .int .i64 i] w fun x w' => x = .returned (.tuple #[.agg #[.int .i64 (p + 1 + (Em.parts r 13 : Nat) + i * g), .int .i64 g], .int .i64 0]) ∧ Below w.heap.size w w' := by
  have R := Lib.hid hr
  unfold RoomIs at R
  have G := Lib.hid (fun w1 => lgeom_ok a n g w1 h)
  obtain ⟨k1, k2, k3, k4, k5, k6⟩ := Um.okU_small h
  have P := Lib.hid (fun w1 => Geo.pages_ok n g r w1 ((Em.right_iff n g).2 ⟨k1, k2, k3, k4⟩) (by omega))
  have hle := Em.parts_le r 13
  obtain ⟨P13, hP⟩ : ∃ q, q = ((Em.parts r 13 : Nat) : Int) := ⟨_, rfl⟩
  rw [← hP] at P ⊢
  obtain ⟨q, hq⟩ : ∃ q, i * g = q := ⟨_, rfl⟩
  have hq0 : 0 ≤ q := by rw [← hq]; exact Int.mul_nonneg hi (by omega)
  have hq1 : q ≤ 134217728 := by
    have : i * g ≤ 1048576 * 128 := Int.mul_le_mul (by omega) (by omega) (by omega) (by omega)
    omega
  have HQ := Lib.hid hq
  obtain ⟨rr, hrr⟩ : ∃ q, q = (r : Int) := ⟨_, rfl⟩
  rw [← hrr] at P R hh
  have hd : decide (i < 0) = false := by simp; omega
  have hd2 : decide (rr ≤ i) = false := by simpa using hh
  have e1 : IntKind.i64.wrap (p + 1) = p + 1 := IntWalk.i64_in _ (by omega)
  have e2 : IntKind.i64.wrap (p + 1 + P13) = p + 1 + P13 := IntWalk.i64_in _ (by omega)
  have e3 : IntKind.i64.wrap q = q := IntWalk.i64_in _ (by omega)
  have e4 : IntKind.i64.wrap (p + 1 + P13 + q) = p + 1 + P13 + q := IntWalk.i64_in _ (by omega)
  obtain ⟨W0, hW0⟩ : ∃ W0, ((w.alloc (.cells #[.int .i64 a, .int .i64 n, .int .i64 g] 44)).alloc (.cells #[.int .i64 p, .int .i64 m] 25)).alloc (.cells #[.int .i64 0, .int .i64 0] 25) = W0 := ⟨_, rfl⟩
  obtain ⟨hB, hx, b0, b1, hz, hsz⟩ := chunk_made w a n g p m W0 hW0
  have HB := Lib.hid hB
  have HX := Lib.hid hx
  have hlt : w.heap.size + 2 < W0.heap.size := by omega
  have HZ := Lib.hid hz
  obtain ⟨_, a0, a1, a2⟩ := hx
  clear h hr hi hr2 hh hB hsz hz k1 k2 k3 k4 k5 k6 hP hrr hp hp2 hle hq0 hq1
  go_enter Tryz.func95, Tryz.ntmps95
  go_wp2_with fail
  clear hW0
  refine (R.out _).mono ?_
  rintro e w1 ⟨rfl, hb⟩
  have HB1 := Lib.hid (HB.out.trans (hb.mono HB.out.size))
  have Z1 := Lib.hid ((hb.block (w.heap.size + 2) hlt).trans HZ.out)
  have HX1 := Lib.hid (HX.out.next hb)
  clear a0 a1 a2
  obtain ⟨lt0, a0, a1, a2⟩ := HX1.out
  replace b0 := (hb.cell (p := ⟨w.heap.size + 1, 0, none⟩) (by show w.heap.size + 1 < _; omega)).trans b0
  replace b1 := (hb.cell (p := ⟨w.heap.size + 1, 1, none⟩) (by show w.heap.size + 1 < _; omega)).trans b1
  replace hlt : w.heap.size + 2 < w1.heap.size := Nat.lt_of_lt_of_le hlt hb.size
  have hlt1 : w.heap.size + 1 < w1.heap.size := by omega
  have HLT := Lib.hid hlt
  clear hb hlt
  go_wp2_with fail
  go_region_held3 (fun w' => (w'.cell? ⟨w.heap.size, 0, none⟩ = some (.int .i64 a) ∧ w'.cell? ⟨w.heap.size, 1, none⟩ = some (.int .i64 n) ∧ w'.cell? ⟨w.heap.size, 2, none⟩ = some (.int .i64 g)) ∧ w'.cell? ⟨w.heap.size + 1, 0, none⟩ = some (.int .i64 p) ∧ w'.cell? ⟨w.heap.size + 1, 1, none⟩ = some (.int .i64 m))
    (first | go_keep | (refine ⟨⟨?_, ?_, ?_⟩, ?_, ?_⟩ <;> assumption) | (exact ⟨⟨(BX.out.cell (p := ⟨w.heap.size, 0, none⟩) lt0).trans a0, (BX.out.cell (p := ⟨w.heap.size, 1, none⟩) lt0).trans a1, (BX.out.cell (p := ⟨w.heap.size, 2, none⟩) lt0).trans a2⟩, (BX.out.cell (p := ⟨w.heap.size + 1, 0, none⟩) hlt1).trans b0, (BX.out.cell (p := ⟨w.heap.size + 1, 1, none⟩) hlt1).trans b1⟩))
    (first | (go_at_call 86; refine (G.out _).mono ?_; rintro e w2 ⟨rfl, hb2⟩; have BX : Hid (Below w1.heap.size w1 w2) := (Below.refl _ _).drew.trans hb2; have B1 := BX; clear hb2) | (go_at_call 130; refine (P.out _).mono ?_; rintro e w3 ⟨rfl, hb3⟩; have BX : Hid (Below w1.heap.size w1 w3) := B1.out.trans (hb3.mono B1.out.size); clear hb3))
  have HB3 := Lib.hid (HB1.out.trans (BX.out.mono HB1.out.size))
  have hz3 := (BX.out.block (w.heap.size + 2) HLT.out).trans Z1.out
  have Z3 := Lib.hid hz3
  obtain ⟨z0, z1, zf⟩ := duo_cells hz3
  clear hz3
  go_wp2_with fail
  refine bodyPost_ret (results_ext (p := 6) (u := 7) rfl _ _ (w.heap.size + 2) _ _ _ rfl rfl (duo_set Z3.out _ _)) rfl ⟨?_, ?_⟩
  · simp [HQ.out]
  · exact below_duo HB3.out (by omega) _ _
end Go.Proofs.YtbmabcddciibfaaGreat
