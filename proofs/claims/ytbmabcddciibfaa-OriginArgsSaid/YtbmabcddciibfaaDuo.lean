/- A block of two cells: its cells, written whole; two numbers in a box. -/
import Derived.WalkKit
import Derived.OwnWalk
import Derived.Below
import Derived.Laws.NewBlocks
import Derived.Laws.Rows
import Derived.Laws.Tables
namespace Go.Proofs.Ytbmabcddciibfaa
open Go.RowKit
set_option linter.unusedVariables false
theorem duo_cells {W : World} {g : Nat} {x y : Value} {t : TypeId} (h : W.heap[g]? = some (.cells #[x, y] t (0, 0))) :
    W.cell? ⟨g, 0, none⟩ = some x ∧ W.cell? ⟨g, 1, none⟩ = some y ∧ ∀ j, W.frozen? ⟨g, j, none⟩ = false :=
  ⟨by rw [cell_of_row _ _ _ _ _ _ h]; rfl, by rw [cell_of_row _ _ _ _ _ _ h]; rfl, fun j => frozen_of_row (j := j) _ _ _ _ h⟩
theorem duo_set {w : World} {g : Nat} {a b : Value} {t : TypeId} (h : w.heap[g]? = some (.cells #[a, b] t (0, 0))) (x y : Value) : ((w.setCell ⟨g, 0, none⟩ x).setCell ⟨g, 1, none⟩ y).heap[g]? = some (.cells #[x, y] t (0, 0)) := by
  rw [heap_setCell_same _ _ _ _ _ _ (heap_setCell_same _ _ _ _ _ _ h)]
  rfl
theorem below_duo {B : Nat} {a w : World} {g : Nat} (h : Below B a w) (hg : B ≤ g) (x y : Value) : Below B a ((w.setCell ⟨g, 0, none⟩ x).setCell ⟨g, 1, none⟩ y) :=
  (h.setCell (p := ⟨g, 0, none⟩) hg x).setCell (p := ⟨g, 1, none⟩) hg y
/-- Two numbers in a box. -/
structure Dx (W : World) (k : Nat) (x y : Int) : Prop where
  lt : k < W.heap.size
  c0 : W.cell? ⟨k, 0, none⟩ = some (.int .i64 x)
  c1 : W.cell? ⟨k, 1, none⟩ = some (.int .i64 y)
theorem Dx.next {W W' : World} {k : Nat} {x y : Int} (h : Dx W k x y) (hb : Below W.heap.size W W') : Dx W' k x y :=
  ⟨Nat.lt_of_lt_of_le h.lt hb.size, (hb.cell (p := ⟨k, 0, none⟩) h.lt).trans h.c0, (hb.cell (p := ⟨k, 1, none⟩) h.lt).trans h.c1⟩
theorem dx_alloc (w : World) (x y : Int) (ty : TypeId) : Dx (w.alloc (.cells #[.int .i64 x, .int .i64 y] ty)) w.heap.size x y := by
  have h := heap_alloc_new w (.cells #[.int .i64 x, .int .i64 y] ty)
  exact ⟨(Array.getElem?_eq_some_iff.1 h).1, by rw [cell_of_row _ _ _ _ _ _ h]; rfl, by rw [cell_of_row _ _ _ _ _ _ h]; rfl⟩
theorem below_new (w : World) (o : Obj) : Below w.heap.size w (w.alloc o) := (Below.refl _ w).alloc (Nat.le_refl _) _
end Go.Proofs.Ytbmabcddciibfaa