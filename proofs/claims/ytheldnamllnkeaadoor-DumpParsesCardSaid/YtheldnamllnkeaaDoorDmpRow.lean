/- Rows of a report's lines; a report in a box. -/
import Derived.Test.YtheldnamllnkeaaDoorDmpSlotN
import Derived.Test.YtheldnamllnkeaaDoorEnts
import Derived.Deep.MidRow
namespace Go.Proofs.YtheldnamllnkeaaDoor
namespace Pd
open Go.RowKit Dsk
set_option maxRecDepth 100000
set_option linter.unusedVariables false

/-- A line's cells. -/
def lcells (x : Ln) (ev : Value) : List Value := [.int .i64 x.id, .int .i64 x.st, .int .i64 x.a, .int .i64 x.n, .int .u32 (x.g : Int), .int .i64 x.room, .bool x.inv, ev]
/-- A row of lines somewhere, nil let in; each has its exceptions somewhere. -/
def RLns (w : World) (a : Option Addr) (ls : List Ln) : Prop := ls ≠ [] → ∃ b off, a = some ⟨b, off, none⟩ ∧ b < w.heap.size ∧ ∀ (i : Nat) x, ls[i]? = some x → ∃ ea ec, w.rangeAt b (off + i * 8) (lcells x (.slice ea x.es.length ec)) ∧ Tb.REnts w ea x.es
theorem rangeAt_below {w w' : World} {b o B : Nat} {cs : List Value} (h : w.rangeAt b o cs) (hb : Below B w w') (hlt : b < B) : w'.rangeAt b o cs := fun j v hv => (hb.cell (p := ⟨b, o + j, none⟩) hlt).trans (h j v hv)
theorem RLns.below {w w' : World} {a : Option Addr} {ls : List Ln} (h : RLns w a ls) (hb : Below w.heap.size w w') : RLns w' a ls := fun hn => by
  obtain ⟨b, off, e, hlt, hc⟩ := h hn
  refine ⟨b, off, e, Nat.lt_of_lt_of_le hlt hb.size, fun i x hx => ?_⟩
  obtain ⟨ea, ec, h1, h2⟩ := hc i x hx
  exact ⟨ea, ec, rangeAt_below h1 hb hlt, h2.below hb⟩
theorem RLns.get {w : World} {a : Option Addr} {ls : List Ln} (h : RLns w a ls) {i : Nat} {x : Ln} (hx : ls[i]? = some x) : ∃ b off ea ec, a = some ⟨b, off, none⟩ ∧ b < w.heap.size ∧ w.rangeAt b (off + i * 8) (lcells x (.slice ea x.es.length ec)) ∧ Tb.REnts w ea x.es := by
  obtain ⟨b, off, e, hlt, hc⟩ := h (by rintro rfl; simp at hx)
  obtain ⟨ea, ec, h1, h2⟩ := hc i x hx
  exact ⟨b, off, ea, ec, e, hlt, h1, h2⟩
theorem size_line (x : Ln) (ev : Value) : (Tryd.prog.info? 54).map (·.size) = some (lcells x ev).length := by
  show _ = some 8
  kernel_rfl
/-- A report as a value. -/
def Rv (r : Rp) (a : Option Addr) (c : Nat) : Value := .agg #[.int .i64 r.s, .int .i64 r.o, .int .i64 r.c, .slice a r.ls.length c]
/-- The superblock in a box of its own. -/
structure Bs (W : World) (k : Nat) (r : Rp) (sv : Value) : Prop where
  lt : k + 1 < W.heap.size
  c3 : W.cell? ⟨k, 3, none⟩ = some sv
  d0 : W.cell? ⟨k + 1, 0, none⟩ = some (.int .i64 r.s)
  d1 : W.cell? ⟨k + 1, 1, none⟩ = some (.int .i64 r.o)
  d2 : W.cell? ⟨k + 1, 2, none⟩ = some (.int .i64 r.c)
theorem Bs.next {W W' : World} {k : Nat} {r : Rp} {sv : Value} (h : Bs W k r sv) (hb : Below (k + 2) W W') : Bs W' k r sv :=
  ⟨Nat.lt_of_lt_of_le h.lt hb.size, (hb.cell (p := ⟨k, 3, none⟩) (by show k < _; omega)).trans h.c3, (hb.cell (p := ⟨k + 1, 0, none⟩) (by show k + 1 < _; omega)).trans h.d0, (hb.cell (p := ⟨k + 1, 1, none⟩) (by show k + 1 < _; omega)).trans h.d1, (hb.cell (p := ⟨k + 1, 2, none⟩) (by show k + 1 < _; omega)).trans h.d2⟩
theorem Bs.three {W : World} {k : Nat} {r : Rp} {sv : Value} (h : Bs W k r sv) : W.cell? ⟨k + 1, 0, none⟩ = some (.int .i64 r.s) ∧ W.cell? ⟨k + 1, 1, none⟩ = some (.int .i64 r.o) ∧ W.cell? ⟨k + 1, 2, none⟩ = some (.int .i64 r.c) := ⟨h.d0, h.d1, h.d2⟩
theorem sup_made (w : World) (r : Rp) (sv : Value) (W0 : World)
    (h : (w.alloc (.cells #[.int .i64 r.s, .int .i64 r.o, .int .i64 r.c, sv] 26)).alloc (.cells #[.int .i64 r.s, .int .i64 r.o, .int .i64 r.c] 23) = W0) :
    Bs W0 w.heap.size r sv ∧ Below w.heap.size w W0 ∧ W0.heap.size = w.heap.size + 2 := by
  subst h
  have h1 := heap_alloc_new w (.cells #[.int .i64 r.s, .int .i64 r.o, .int .i64 r.c, sv] 26)
  have h2 := heap_alloc_new (w.alloc (.cells #[.int .i64 r.s, .int .i64 r.o, .int .i64 r.c, sv] 26)) (.cells #[.int .i64 r.s, .int .i64 r.o, .int .i64 r.c] 23)
  have hs : (w.alloc (.cells #[.int .i64 r.s, .int .i64 r.o, .int .i64 r.c, sv] 26)).heap.size = w.heap.size + 1 := by simp
  rw [hs] at h2
  have hb : Below (w.heap.size + 1) (w.alloc (.cells #[.int .i64 r.s, .int .i64 r.o, .int .i64 r.c, sv] 26)) ((w.alloc (.cells #[.int .i64 r.s, .int .i64 r.o, .int .i64 r.c, sv] 26)).alloc (.cells #[.int .i64 r.s, .int .i64 r.o, .int .i64 r.c] 23)) := (Below.refl _ _).alloc (by simp) _
  have h3 := (hb.block w.heap.size (by omega)).trans h1
  refine ⟨⟨by simp, ?_, ?_, ?_, ?_⟩, ((Below.refl _ w).alloc (Nat.le_refl _) _).alloc (by simp) _, by simp⟩
  · rw [cell_of_row _ _ _ _ _ _ h3]; rfl
  · rw [cell_of_row _ _ _ _ _ _ h2]; rfl
  · rw [cell_of_row _ _ _ _ _ _ h2]; rfl
  · rw [cell_of_row _ _ _ _ _ _ h2]; rfl
/-- The numbers of a report are such as its variables hold. -/
structure Wr (r : Rp) : Prop where
  s : -9223372036854775808 ≤ r.s ∧ r.s ≤ 9223372036854775807
  o : -9223372036854775808 ≤ r.o ∧ r.o ≤ 9223372036854775807
  c : -9223372036854775808 ≤ r.c ∧ r.c ≤ 9223372036854775807
  ls : ∀ x ∈ r.ls, Wf x ∧ ∀ e ∈ x.es, (-9223372036854775808 ≤ e.1 ∧ e.1 ≤ 9223372036854775807) ∧ -9223372036854775808 ≤ e.2 ∧ e.2 ≤ 9223372036854775807
end Pd
end Go.Proofs.YtheldnamllnkeaaDoor
