/- The contract of the statements' alive question. Made by mk_alive.py. -/
import Derived.Test.YtdojclhcoboocaaDoorCmdBack
import Derived.Test.YtdojclhcoboocaaDoorCmdPrA
namespace Go.Proofs.YtdojclhcoboocaaDoor
namespace Co
open Go.Shelf Go.RowKit Go.Lib Pd Dsk
set_option maxRecDepth 100000
set_option linter.unusedVariables false

def cA : Cd := ⟨[119, 114, 105, 116, 101], 2, 30, 0, [97, 0]⟩
def sA : List UInt8 := [119, 114, 105, 116, 101, 32, 50, 32, 51, 48, 32, 54, 49, 48, 48]
def sB : List UInt8 := [115, 116, 101, 112, 32, 49]
theorem fig_two : fig 2 = [50] := by decide +kernel
theorem fig_thirty : fig 30 = [51, 48] := by decide +kernel
theorem print_cA : printC cA = some sA := by
  show some (wWrite ++ (32 :: fig 2 ++ (32 :: fig 30 ++ (32 :: hexC [97, 0] ++ [])))) = _
  rw [fig_two, fig_thirty]
  rfl
theorem parse_sA : parseC sA = some cA := parse_print print_cA
theorem parse_sB : parseC sB = none := rfl
theorem litP (W : World) (hv : Vs W) : Calls Tryd.prog 7 #[.agg #[.string ⟨#[119, 114, 105, 116, 101]⟩, .int .i64 2, .int .i64 30, .int .i64 0, .string ⟨#[97, 0]⟩]] W fun e w' => e = .returned (.tuple #[.string ⟨#[119, 114, 105, 116, 101, 32, 50, 32, 51, 48, 32, 54, 49, 48, 48]⟩, .int .i64 0]) ∧ Below W.heap.size W w' :=
  (print_any cA (by decide) (by decide) W hv).mono (by
    rintro e w' ⟨rfl, hb⟩
    unfold printCV printCE
    rw [print_cA]
    exact ⟨rfl, hb⟩)
theorem litA (W : World) (hv : Vs W) : Calls Tryd.prog 9 #[.string ⟨#[119, 114, 105, 116, 101, 32, 50, 32, 51, 48, 32, 54, 49, 48, 48]⟩] W fun e w' => e = .returned (.tuple #[.agg #[.string ⟨#[119, 114, 105, 116, 101]⟩, .int .i64 2, .int .i64 30, .int .i64 0, .string ⟨#[97, 0]⟩], .int .i64 0]) ∧ Below W.heap.size W w' :=
  (parse_any sA W hv (by decide)).mono (by
    rintro e w' ⟨rfl, hb⟩
    unfold parseCV parseCE
    rw [parse_sA]
    exact ⟨rfl, hb⟩)
theorem litB (W : World) (hv : Vs W) : Calls Tryd.prog 9 #[.string ⟨#[115, 116, 101, 112, 32, 49]⟩] W fun e w' => e = .returned (.tuple #[.agg #[.string ⟨#[]⟩, .int .i64 0, .int .i64 0, .int .i64 0, .string ⟨#[]⟩], .int .i64 32]) ∧ Below W.heap.size W w' :=
  (parse_any sB W hv (by decide)).mono (by
    rintro e w' ⟨rfl, hb⟩
    unfold parseCV parseCE
    rw [parse_sB]
    exact ⟨rfl, hb⟩)
/-- A command's cells. -/
theorem ld_cmd {w : World} {g : Nat} {x0 x1 x2 x3 x4 : Value} (h : w.heap[g]? = some (.cells #[x0, x1, x2, x3, x4] 23 (0, 0))) : w.cell? ⟨g, 0, none⟩ = some x0 ∧ w.cell? ⟨g, 1, none⟩ = some x1 ∧ w.cell? ⟨g, 2, none⟩ = some x2 ∧ w.cell? ⟨g, 3, none⟩ = some x3 ∧ w.cell? ⟨g, 4, none⟩ = some x4 := by
  refine ⟨?_, ?_, ?_, ?_, ?_⟩ <;> (rw [cell_of_row _ _ _ _ _ _ h]; rfl)

set_option maxHeartbeats 4000000 in
theorem alive_any (w : World) (hv : Vs w) : Calls Tryd.prog 6 #[] w fun e w' => e = .returned (.bool true) ∧ Below w.heap.size w w' := by
  obtain ⟨W0, hW0⟩ : ∃ W0, w.alloc (.cells #[.string ⟨#[119, 114, 105, 116, 101]⟩, .int .i64 2, .int .i64 30, .int .i64 0, .string ⟨#[97, 0]⟩] 23) = W0 := ⟨_, rfl⟩
  have B0 : Hid (Below w.heap.size w W0) := Lib.hid (by rw [← hW0]; exact (Below.refl _ w).alloc (Nat.le_refl _) _)
  have R0 : Hid (W0.heap[w.heap.size]? = some (.cells #[.string ⟨#[119, 114, 105, 116, 101]⟩, .int .i64 2, .int .i64 30, .int .i64 0, .string ⟨#[97, 0]⟩] 23 (0, 0))) := Lib.hid (by rw [← hW0]; exact heap_alloc_new w _)
  obtain ⟨k0, k1, k2, k3, k4⟩ := ld_cmd R0.out
  have V0 := Lib.hid hv
  have P1 := Lib.hid (litP W0 (hv.below B0.out))
  clear hv
  go_enter Tryd.func6, Tryd.ntmps6
  go_wp2_with fail
  clear hW0
  refine P1.out.mono ?_
  rintro e w1 ⟨rfl, hb1⟩
  have B1 : Hid (Below w.heap.size w w1) := Lib.hid (B0.out.trans (hb1.mono B0.out.size))
  have R1 : Hid (w1.heap[w.heap.size]? = some (.cells #[.string ⟨#[119, 114, 105, 116, 101]⟩, .int .i64 2, .int .i64 30, .int .i64 0, .string ⟨#[97, 0]⟩] 23 (0, 0))) := Lib.hid ((hb1.block _ (Array.getElem?_eq_some_iff.1 R0.out).1).trans R0.out)
  have P2 := Lib.hid (litA w1 (V0.out.below B1.out))
  clear hb1 k0 k1 k2 k3 k4
  go_wp2_with fail
  refine P2.out.mono ?_
  rintro e w2 ⟨rfl, hb2⟩
  obtain ⟨W2, hW2⟩ : ∃ W2, w2.alloc (.cells #[.string ⟨#[119, 114, 105, 116, 101]⟩, .int .i64 2, .int .i64 30, .int .i64 0, .string ⟨#[97, 0]⟩] 23) = W2 := ⟨_, rfl⟩
  have b3 : Below w2.heap.size w2 W2 := by rw [← hW2]; exact (Below.refl _ w2).alloc (Nat.le_refl _) _
  have R2 : Hid (W2.heap[w2.heap.size]? = some (.cells #[.string ⟨#[119, 114, 105, 116, 101]⟩, .int .i64 2, .int .i64 30, .int .i64 0, .string ⟨#[97, 0]⟩] 23 (0, 0))) := Lib.hid (by rw [← hW2]; exact heap_alloc_new w2 _)
  have B2 : Hid (Below w.heap.size w W2) := Lib.hid ((B1.out.trans (hb2.mono B1.out.size)).trans (b3.mono (Nat.le_trans B1.out.size hb2.size)))
  have R1' : Hid (W2.heap[w.heap.size]? = some (.cells #[.string ⟨#[119, 114, 105, 116, 101]⟩, .int .i64 2, .int .i64 30, .int .i64 0, .string ⟨#[97, 0]⟩] 23 (0, 0))) := Lib.hid ((b3.block _ (Nat.lt_of_lt_of_le (Array.getElem?_eq_some_iff.1 R1.out).1 hb2.size)).trans ((hb2.block _ (Array.getElem?_eq_some_iff.1 R1.out).1).trans R1.out))
  have P3 := Lib.hid (litB W2 (V0.out.below B2.out))
  clear hb2 b3
  go_wp2_with fail
  clear hW2
  refine P3.out.mono ?_
  rintro e w3 ⟨rfl, hb3⟩
  have b4 : Below w3.heap.size w3 (w3.alloc (.cells #[.string ⟨#[]⟩, .int .i64 0, .int .i64 0, .int .i64 0, .string ⟨#[]⟩] 23)) := (Below.refl _ w3).alloc (Nat.le_refl _) _
  have B4 : Hid (Below w.heap.size w (w3.alloc (.cells #[.string ⟨#[]⟩, .int .i64 0, .int .i64 0, .int .i64 0, .string ⟨#[]⟩] 23))) := Lib.hid ((B2.out.trans (hb3.mono B2.out.size)).trans (b4.mono (Nat.le_trans B2.out.size hb3.size)))
  obtain ⟨k0, k1, k2, k3, k4⟩ := ld_cmd (w := w3.alloc (.cells #[.string ⟨#[]⟩, .int .i64 0, .int .i64 0, .int .i64 0, .string ⟨#[]⟩] 23)) ((b4.block _ (Nat.lt_of_lt_of_le (Array.getElem?_eq_some_iff.1 R1'.out).1 hb3.size)).trans ((hb3.block _ (Array.getElem?_eq_some_iff.1 R1'.out).1).trans R1'.out))
  obtain ⟨j0, j1, j2, j3, j4⟩ := ld_cmd (w := w3.alloc (.cells #[.string ⟨#[]⟩, .int .i64 0, .int .i64 0, .int .i64 0, .string ⟨#[]⟩] 23)) ((b4.block _ (Nat.lt_of_lt_of_le (Array.getElem?_eq_some_iff.1 R2.out).1 hb3.size)).trans ((hb3.block _ (Array.getElem?_eq_some_iff.1 R2.out).1).trans R2.out))
  clear hb3 b4
  go_wp2
  go_ret
  exact ⟨rfl, B4.out⟩
end Co
end Go.Proofs.YtdojclhcoboocaaDoor
