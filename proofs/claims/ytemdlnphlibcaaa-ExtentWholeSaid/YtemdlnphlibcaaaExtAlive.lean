/- The live question. -/
import Derived.Test.YtemdlnphlibcaaaExtCalls
namespace Go.Proofs.Ytemdlnphlibcaaa
namespace Xm
open Go.RowKit
set_option maxRecDepth 100000
set_option linter.unusedVariables false

theorem in_two : In [(20, 6), (12, 5)] 2 := ⟨rfl, fun x hx => by simp at hx; rcases hx with rfl | rfl <;> simp, by unfold maxLen; omega, by omega⟩
theorem in_one : In [(12, 5)] 1 := ⟨rfl, fun x hx => by simp at hx; rw [hx]; simp, by unfold maxLen; omega, by omega⟩
theorem in_nil : In [] 0 := ⟨rfl, fun x hx => (by cases hx), by unfold maxLen; omega, by omega⟩
theorem told_fit : fitS 10 20 4 [(20, 6), (12, 5)] = 26 ∧ fitL 10 20 4 [(20, 6), (12, 5)] = 4 ∧ fitE 10 20 4 [(20, 6), (12, 5)] = 0 := by decide
theorem told_gaps : gapsR 10 20 [(20, 6), (12, 5)] = [(10, 2), (17, 3), (26, 4)] ∧ gapsE 10 20 [(20, 6), (12, 5)] = 0 := by decide
theorem told_none : fitS 10 20 21 [] = 0 ∧ fitL 10 20 21 [] = 0 ∧ fitE 10 20 21 [] = 111 := by decide
theorem told_free : freeR 10 20 [(12, 5)] = 15 := by decide
set_option maxHeartbeats 2000000 in
theorem alive_any (w : World) : Calls Try.prog 6 #[] w fun e w' => e = .returned (.bool true) ∧ Below w.heap.size w w' := by
  have K1 : Hid (∀ (W : World) (p : Option Addr), Exts W p [(20, 6), (12, 5)] → Calls Try.prog 9 #[.agg #[.int .i64 10, .int .i64 20], .int .i64 4, .slice p 2 2] W fun e w' => e = .returned (.tuple #[.agg #[.int .i64 26, .int .i64 4], .int .i64 0]) ∧ Below W.heap.size W w') := fun W p h => by
    have := pfit_any 10 20 4 in_two p 2 W h
    obtain ⟨q1, q2, q3⟩ := told_fit
    rw [q1, q2, q3] at this
    exact this
  have K2 : Hid (∀ (W : World) (p : Option Addr), Exts W p [(20, 6), (12, 5)] → Calls Try.prog 7 #[.agg #[.int .i64 10, .int .i64 20], .slice p 2 2] W fun e w' => ∃ q d, e = .returned (.tuple #[.slice q 3 d, .int .i64 0]) ∧ Exts w' q [(10, 2), (17, 3), (26, 4)] ∧ Below W.heap.size W w') := fun W p h => by
    have := pgaps_any 10 20 in_two p 2 W h
    rw [told_gaps.1, told_gaps.2] at this
    exact this
  have K3 : Hid (∀ W : World, Calls Try.prog 9 #[.agg #[.int .i64 10, .int .i64 20], .int .i64 21, .slice none 0 0] W fun e w' => e = .returned (.tuple #[.agg #[.int .i64 0, .int .i64 0], .int .i64 111]) ∧ Below W.heap.size W w') := fun W => by
    have := pfit_any 10 20 21 in_nil none 0 W (Exts.nil _ _)
    obtain ⟨q1, q2, q3⟩ := told_none
    rw [q1, q2, q3] at this
    exact this
  have K4 : Hid (∀ (W : World) (p : Option Addr), Exts W p [(12, 5)] → Calls Try.prog 14 #[.agg #[.int .i64 10, .int .i64 20], .slice p 1 1] W fun e w' => e = .returned (.int .i64 15) ∧ Below W.heap.size W w') := fun W p h => by
    have := pfree_any 10 20 in_one p 1 W h
    rw [told_free] at this
    exact this
  obtain ⟨A, hA⟩ : ∃ A, w.alloc (.cells #[.int .i64 10, .int .i64 20] 23) = A := ⟨_, rfl⟩
  have hx : Bx A w.heap.size 10 20 := by rw [← hA]; exact Bx.new _ _ _
  have HB : Hid (Below w.heap.size w A) := by rw [← hA]; exact below_new _ _
  have HX := Lib.hid hx
  have c0 := hx.c0
  have c1 := hx.c1
  clear hx
  go_enter Try.func6, Try.ntmps6
  go_wp2_with fail
  clear hA
  refine (K1.out _ _ (lit_two _ _ _ _ _)).mono ?_
  rintro e w1 ⟨rfl, hb⟩
  have hb := (below_new A (.cells #[.int .i64 20, .int .i64 6, .int .i64 12, .int .i64 5] 23)).trans (hb.mono (by simp))
  obtain ⟨B, hB⟩ : ∃ B, w1.alloc (.cells #[.int .i64 26, .int .i64 4] 23) = B := ⟨_, rfl⟩
  have b1 : Below w1.heap.size w1 B := by rw [← hB]; exact below_new _ _
  have HX1 := Lib.hid ((HX.out.next hb).next b1)
  have HY1 : Hid (Bx B w1.heap.size 26 4) := by rw [← hB]; exact Bx.new _ _ _
  have HB1 := Lib.hid (HB.out.trans ((hb.trans (b1.mono hb.size)).mono HB.out.size))
  clear hb b1 c0 c1
  have c0 := HX1.out.c0
  have c1 := HX1.out.c1
  go_wp2_with fail
  clear hB
  refine (K2.out _ _ (lit_two _ _ _ _ _)).mono ?_
  rintro e w2 ⟨q, d, rfl, hrow, hb⟩
  have hb := (below_new B (.cells #[.int .i64 20, .int .i64 6, .int .i64 12, .int .i64 5] 23)).trans (hb.mono (by simp))
  have HX2 := Lib.hid (HX1.out.next hb)
  have HY2 := Lib.hid (HY1.out.next hb)
  have HB2 := Lib.hid (HB1.out.trans (hb.mono HB1.out.size))
  have HR := Lib.hid hrow
  clear hb c0 c1 hrow
  have c0 := HX2.out.c0
  have c1 := HX2.out.c1
  go_wp2_with fail
  refine (K3.out _).mono ?_
  rintro e w3 ⟨rfl, hb⟩
  have b1 := below_new w3 (.cells #[.int .i64 0, .int .i64 0] 23)
  have HB3 := Lib.hid (HB2.out.trans ((hb.trans (b1.mono hb.size)).mono HB2.out.size))
  have HX3 := Lib.hid ((HX2.out.next hb).next b1)
  have HY3 := Lib.hid ((HY2.out.next hb).next b1)
  have hR3 := (HR.out.next hb).next b1
  obtain ⟨b, off, rfl, hbl, hc⟩ := hR3 (by simp)
  obtain ⟨r0, r1⟩ := hc 1 (by simp)
  have r0 : (w3.alloc (.cells #[.int .i64 0, .int .i64 0] 23)).cell? ⟨b, off + 2, none⟩ = some (.int .i64 17) := r0
  have r1 : (w3.alloc (.cells #[.int .i64 0, .int .i64 0] 23)).cell? ⟨b, off + 2 + 1, none⟩ = some (.int .i64 3) := r1
  have r2 : (w3.alloc (.cells #[.int .i64 0, .int .i64 0] 23)).cell? ⟨b, off + 3, none⟩ = some (.int .i64 3) := r1
  clear hb c0 c1 b1 hc hbl
  have c0 := HX3.out.c0
  have c1 := HX3.out.c1
  have y0 := HY3.out.c0
  have y1 := HY3.out.c1
  go_wp2_with fail
  have hl := lit_one (w3.alloc (.cells #[.int .i64 0, .int .i64 0] 23)) 12 5
  simp only [World.size_alloc] at hl
  refine (K4.out _ _ hl).mono ?_
  rintro e w4 ⟨rfl, hb⟩
  have hb := (below_new (w3.alloc (.cells #[.int .i64 0, .int .i64 0] 23)) (.cells #[.int .i64 12, .int .i64 5] 23)).trans (hb.mono (by simp))
  have HB4 := Lib.hid (HB3.out.trans (hb.mono HB3.out.size))
  clear hb c0 c1 y0 y1 r0 r1 r2
  go_wp2_with fail
  go_ret
  exact ⟨rfl, HB4.out⟩
end Xm
end Go.Proofs.Ytemdlnphlibcaaa
