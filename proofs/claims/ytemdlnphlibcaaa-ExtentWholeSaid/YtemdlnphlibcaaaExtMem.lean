/- Extents in memory: one in a box, a row of them. -/
import Derived.Test.YtemdlnphlibcaaaExtMath
import Derived.Test.YtemdlnphlibcaaaProg
import Derived.WalkKit
import Derived.OwnWalk
import Derived.Below
import Derived.Laws.Rows
import Derived.Laws.OwnMore
import Derived.Laws.NewBlocks
import Derived.Lib.Hide
import Derived.Deep.QuietTactic
import Derived.BigQuiet
import Derived.RegionTactic
import Derived.StillTailTactics
import Derived.Deep.RegionHeld3
import Derived.WalkSpells
import Derived.WalkLawsBesides
import Derived.Outline
import Derived.LoopTactic
namespace Go.Proofs.Ytemdlnphlibcaaa
namespace Xm
open Go.RowKit
set_option linter.unusedVariables false

/-- An extent in a box. -/
def Bx (w : World) (b : Nat) (s l : Int) : Prop := w.heap[b]? = some (.cells #[.int .i64 s, .int .i64 l] 23 (0, 0))
theorem Bx.lt {w : World} {b : Nat} {s l : Int} (h : Bx w b s l) : b < w.heap.size := (Array.getElem?_eq_some_iff.1 h).1
theorem Bx.next {w w' : World} {b : Nat} {s l : Int} (h : Bx w b s l) (hb : Below w.heap.size w w') : Bx w' b s l := (hb.block b h.lt).trans h
theorem Bx.below {w w' : World} {B b : Nat} {s l : Int} (h : Bx w b s l) (hb : Below B w w') (hB : b < B) : Bx w' b s l := (hb.block b hB).trans h
theorem Bx.c0 {w : World} {b : Nat} {s l : Int} (h : Bx w b s l) : w.cell? ⟨b, 0, none⟩ = some (.int .i64 s) := by rw [cell_of_row _ _ _ _ _ _ h]; rfl
theorem Bx.c1 {w : World} {b : Nat} {s l : Int} (h : Bx w b s l) : w.cell? ⟨b, 1, none⟩ = some (.int .i64 l) := by rw [cell_of_row _ _ _ _ _ _ h]; rfl
theorem Bx.new (w : World) (s l : Int) : Bx (w.alloc (.cells #[.int .i64 s, .int .i64 l] 23)) w.heap.size s l := heap_alloc_new _ _
theorem below_new (w : World) (o : Obj) : Below w.heap.size w (w.alloc o) := (Below.refl _ w).alloc (Nat.le_refl _) _
theorem below_draw {B : Nat} {a w : World} (h : Below B a w) : Below B a w.drew := ⟨h.os, h.tape, h.output, h.size, h.block⟩
theorem below_draws {B : Nat} {a w : World} (h : Below B a w) (n : Nat) : Below B a (w.drewN n) := ⟨h.os, h.tape, h.output, h.size, h.block⟩
/-- Two extents in boxes. -/
theorem two_made (w : World) (a b s l : Int) (W0 : World) (h : (w.alloc (.cells #[.int .i64 a, .int .i64 b] 23)).alloc (.cells #[.int .i64 s, .int .i64 l] 23) = W0) :
    Below w.heap.size w W0 ∧ Bx W0 w.heap.size a b ∧ Bx W0 (w.heap.size + 1) s l ∧ W0.heap.size = w.heap.size + 2 := by
  subst h
  have h1 := Bx.new w a b
  have h2 := Bx.new (w.alloc (.cells #[.int .i64 a, .int .i64 b] 23)) s l
  have hs : (w.alloc (.cells #[.int .i64 a, .int .i64 b] 23)).heap.size = w.heap.size + 1 := by simp
  rw [hs] at h2
  exact ⟨(below_new w _).alloc (by simp) _, h1.next (below_new _ _), h2, by simp⟩

/-- A row of extents. -/
def Exts (w : World) (p : Option Addr) (u : List (Int × Int)) : Prop := u ≠ [] → ∃ b off, p = some ⟨b, off, none⟩ ∧ b < w.heap.size ∧
  ∀ i (h : i < u.length), w.cell? ⟨b, off + i * 2, none⟩ = some (.int .i64 u[i].1) ∧ w.cell? ⟨b, off + i * 2 + 1, none⟩ = some (.int .i64 u[i].2)
theorem Exts.keep {w w' : World} {p : Option Addr} {u : List (Int × Int)} (h : Exts w p u) {B : Nat} (hs : w.heap.size ≤ w'.heap.size) (hk : ∀ q : Addr, q.block < w.heap.size → w'.cell? q = w.cell? q) : Exts w' p u := fun hn => by
  obtain ⟨b, off, e, hb, hc⟩ := h hn
  exact ⟨b, off, e, by omega, fun i hi => ⟨(hk ⟨b, _, none⟩ hb).trans (hc i hi).1, (hk ⟨b, _, none⟩ hb).trans (hc i hi).2⟩⟩
theorem Exts.next {w w' : World} {p : Option Addr} {u : List (Int × Int)} (h : Exts w p u) (hb : Below w.heap.size w w') : Exts w' p u := h.keep (B := 0) hb.size fun _ hq => hb.cell hq
theorem Exts.nil (w : World) (p : Option Addr) : Exts w p [] := fun h => (h rfl).elim
/-- The cells of extents. -/
def cells (l : List (Int × Int)) : List Value := l.flatMap fun x => [.int .i64 x.1, .int .i64 x.2]
theorem cells_length (l : List (Int × Int)) : (cells l).length = l.length * 2 := by
  unfold cells
  induction l with
  | nil => rfl
  | cons x l ih => simp only [List.flatMap_cons, List.length_append, ih, List.length_cons, List.length_nil]; omega
theorem cells_append (l r : List (Int × Int)) : cells (l ++ r) = cells l ++ cells r := by simp [cells]
theorem cells_one (x : Int × Int) : cells [x] = [.int .i64 x.1, .int .i64 x.2] := by simp [cells]
theorem cells_get (l : List (Int × Int)) (i : Nat) (h : i < l.length) : (cells l)[i * 2]? = some (.int .i64 l[i].1) ∧ (cells l)[i * 2 + 1]? = some (.int .i64 l[i].2) := by
  induction l generalizing i with
  | nil => simp at h
  | cons x l ih =>
    have e : cells (x :: l) = .int .i64 x.1 :: .int .i64 x.2 :: cells l := rfl
    rw [e]
    cases i with
    | zero => simp
    | succ i =>
      have := ih i (by simpa using h)
      rw [show (i + 1) * 2 = i * 2 + 1 + 1 by omega]
      simpa using this
theorem cells_at (l : List (Int × Int)) (j : Nat) (v : Value) (h : (cells l)[j]? = some v) : ∃ i, ∃ (hi : i < l.length), (j = i * 2 ∧ v = .int .i64 l[i].1) ∨ (j = i * 2 + 1 ∧ v = .int .i64 l[i].2) := by
  have hj := (List.getElem?_eq_some_iff.1 h).1
  rw [cells_length] at hj
  obtain ⟨h0, h1⟩ := cells_get l (j / 2) (by omega)
  refine ⟨j / 2, by omega, ?_⟩
  rcases Nat.mod_two_eq_zero_or_one j with e | e
  · have e' : j / 2 * 2 = j := by omega
    rw [e', h] at h0; exact .inl ⟨e'.symm, by simpa using h0⟩
  · have e' : j / 2 * 2 + 1 = j := by omega
    rw [e', h] at h1; exact .inr ⟨e'.symm, by simpa using h1⟩
theorem cells_one' (l : List (Int × Int)) : ∀ v ∈ cells l, v.oneCell' = true := by
  intro v hv
  obtain ⟨j, hj, e⟩ := List.getElem_of_mem hv
  obtain ⟨i, hi, ⟨_, rfl⟩ | ⟨_, rfl⟩⟩ := cells_at l j v (by rw [List.getElem?_eq_getElem hj, e]) <;> rfl
/-- The cells of a row, one behind the other. -/
theorem Exts.news {w : World} {p : Option Addr} {u : List (Int × Int)} (h : Exts w p u) (hn : u ≠ []) : ∃ b off, p = some ⟨b, off, none⟩ ∧ b < w.heap.size ∧ ∀ j v, (cells u)[j]? = some v → w.cell? ⟨b, off + j, none⟩ = some v := by
  obtain ⟨b, off, e, hb, hc⟩ := h hn
  refine ⟨b, off, e, hb, fun j v hv => ?_⟩
  obtain ⟨i, hi, ⟨rfl, rfl⟩ | ⟨rfl, rfl⟩⟩ := cells_at u j v hv
  · exact (hc i hi).1
  · exact (hc i hi).2
/-- A row of one's own is a row. -/
theorem Exts.own {w : World} {base : Nat} {v : Value} {l : List (Int × Int)} (h : w.ownsRow base 23 2 v l.length (cells l)) : ∃ p c, v = .slice p l.length c ∧ Exts w p l := by
  by_cases hl : l = []
  · subst hl
    rcases h.2 with ⟨h1, h0⟩ | ⟨g, cap, cur, rfl, _⟩
    · exact ⟨none, 0, h1, Exts.nil _ _⟩
    · exact ⟨_, cap, rfl, Exts.nil _ _⟩
  · rcases h.2 with ⟨_, h0⟩ | ⟨g, cap, cur, rfl, hg, hh, h1, h2, h3, h4⟩
    · exact (hl (List.length_eq_zero_iff.1 h0)).elim
    · refine ⟨_, cap, rfl, fun _ => ⟨g, 0, rfl, (Array.getElem?_eq_some_iff.1 hh).1, fun i hi => ?_⟩⟩
      have hp := cells_length l
      have get : ∀ j x, (cells l)[j]? = some x → w.cell? ⟨g, 0 + j, none⟩ = some x := fun j x hj => by
        rw [Nat.zero_add, cell_of_row _ _ _ _ _ _ hh]
        have hjl := (List.getElem?_eq_some_iff.1 hj).1
        have hj2 := hj
        rw [← h4, List.getElem?_take, if_pos (by omega)] at hj2
        simpa using hj2
      obtain ⟨a, b⟩ := cells_get l i hi
      exact ⟨get _ _ a, get _ _ b⟩
theorem info_ext : (Try.prog.info? 23).map (fun i => (i.zero, i.size, i.bytes)) = some (some (.agg #[.int .i64 0, .int .i64 0]), 2, 16) := by kernel_rfl
end Xm
end Go.Proofs.Ytemdlnphlibcaaa
