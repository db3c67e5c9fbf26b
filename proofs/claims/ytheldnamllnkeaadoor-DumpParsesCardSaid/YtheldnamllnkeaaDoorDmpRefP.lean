/- The document's forms, filled in, are the dump's lines. -/
import Derived.Test.YtheldnamllnkeaaDoorDmpRefF
namespace Go.Proofs.YtheldnamllnkeaaDoor
namespace Pd
open Go.RowKit Dsk Go.Maps
set_option maxRecDepth 100000
set_option linter.unusedVariables false

def formD : List UInt8 := [100, 105, 115, 107, 32, 35, 32, 111, 114, 105, 103, 105, 110, 32, 35, 32, 99, 104, 117, 110, 107, 32, 35]
def formE : List UInt8 := [101, 110, 116, 114, 121, 32, 35, 32, 35]
theorem signs_D : signs formD = 3 := by decide
theorem signs_E : signs formE = 2 := by decide
theorem signs_S (mg iv : Bool) : signs (formS mg iv) = 5 := by cases mg <;> cases iv <;> decide
theorem size_S (mg iv : Bool) : (formS mg iv).length ≤ 100 := by cases mg <;> cases iv <;> decide
theorem fill_D (r : Rp) : fill formD [r.s, r.o, r.c] = line (supW r) := by
  simp [fill, formD, line, supW, Lib.join, wDisk, wOrigin, wChunk]
theorem fill_E (e : Int × Int) : fill formE [e.1, e.2] = line (entW e) := by
  simp [fill, formE, line, entW, Lib.join, wEntry]
theorem fill_S (x : Ln) (mg : Bool) (h : (mg = true ∧ x.st = 2) ∨ (mg = false ∧ x.st = 1)) : fill (formS mg x.inv) [x.id, x.a, x.n, (x.g : Int), x.room] = line (slotW x) := by
  rcases h with ⟨rfl, hs⟩ | ⟨rfl, hs⟩
  · cases hi : x.inv <;> simp [fill, formS, line, slotW, headW, wState, hs, hi, Lib.join, wSlot, wMerging, wGen, wRoom, wInvalid]
  · cases hi : x.inv <;> simp [fill, formS, line, slotW, headW, wState, hs, hi, Lib.join, wSlot, wUsed, wGen, wRoom, wInvalid]
theorem all_D (r : Rp) : [r.s, r.o, r.c].all okN = okS r := by
  unfold okS
  simp [Bool.and_assoc]
theorem all_E (e : Int × Int) : [e.1, e.2].all okN = okE e := by
  unfold okE
  simp
theorem all_S (x : Ln) (hg : x.g ≤ 4294967295) : [x.id, x.a, x.n, (x.g : Int), x.room].all okN = true ↔ (okN x.id = true ∧ okN x.a = true ∧ okN x.n = true ∧ okN x.room = true) := by
  have h : okN (x.g : Int) = true := (okN_iff _).2 (by omega)
  simp [h]
theorem okH_iff (x : Ln) (hg : x.g ≤ 4294967295) : okH x = true ↔ [x.id, x.a, x.n, (x.g : Int), x.room].all okN = true ∧ (x.st = 1 ∨ x.st = 2) := by
  rw [all_S x hg]
  unfold okH
  simp only [Bool.and_eq_true, decide_eq_true_eq]
  constructor
  · rintro ⟨⟨⟨⟨h1, h2⟩, h3⟩, h4⟩, h5⟩
    exact ⟨⟨h1, h3, h4, h5⟩, h2⟩
  · rintro ⟨⟨h1, h3, h4, h5⟩, h2⟩
    exact ⟨⟨⟨⟨h1, h2⟩, h3⟩, h4⟩, h5⟩
/-- Some ints, just built. -/
theorem ints_made {w : World} {g : Nat} {l : List Int} (h : w.heap[g]? = some (.cells (l.map fun z => Value.int .i64 z).toArray 3 (0, 0))) : IRow w g l := fun i z hz => by
  rw [cell_of_row _ _ _ _ _ _ h]
  simp [hz]
end Pd
end Go.Proofs.YtheldnamllnkeaaDoor
