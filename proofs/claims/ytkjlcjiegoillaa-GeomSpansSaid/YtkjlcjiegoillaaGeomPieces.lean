/- The walk of GeomPieces. -/
import Derived.Test.YtkjlcjiegoillaaGeomAlive
import Derived.LoopTactic
namespace Go.Proofs.Ytkjlcjiegoillaa
namespace Geo
open Go.RowKit
set_option linter.unusedVariables false

theorem splitE_wrong {o c a m : Int} (h : Em.rightB o c = false) : splitE o c a m = 1 := by
  unfold splitE; rw [refuse_wrong h]; rfl
theorem splitE_right {o c a m : Int} (h : Em.rightB o c = true) : (splitE o c a m = 0 ∧ 0 ≤ m ∧ m ≤ o ∧ 0 ≤ a ∧ a ≤ o - m) ∨ splitE o c a m = 2 ∧ ¬ (0 ≤ m ∧ m ≤ o ∧ 0 ≤ a ∧ a ≤ o - m) := by
  unfold splitE
  by_cases h1 : m < 0 ∨ o < m
  · rw [refuse_out h h1]; exact .inr ⟨rfl, by omega⟩
  · rw [refuse_ok h (by omega) (by omega), if_pos rfl]
    by_cases h2 : a < 0 ∨ o - m < a
    · rw [refuse_out h h2]; exact .inr ⟨rfl, by omega⟩
    · rw [refuse_ok h (by omega) (by omega)]; exact .inl ⟨rfl, by omega, by omega, by omega, by omega⟩

theorem two_boxes (w : World) (o c a m : Int) (W0 : World) (h : (w.alloc (.cells #[.int .i64 o, .int .i64 c] 23)).alloc (.cells #[.int .i64 a, .int .i64 m] 25) = W0) :
    Below w.heap.size w W0 ∧ W0.heap.size = w.heap.size + 2 ∧ W0.cell? ⟨w.heap.size, 0, none⟩ = some (.int .i64 o) ∧ W0.cell? ⟨w.heap.size, 1, none⟩ = some (.int .i64 c) ∧
    W0.cell? ⟨w.heap.size + 1, 0, none⟩ = some (.int .i64 a) ∧ W0.cell? ⟨w.heap.size + 1, 1, none⟩ = some (.int .i64 m) := by
  subst h
  have hg0 := cell_alloc2 w o c
  have hk : Below (w.heap.size + 1) (w.alloc (.cells #[.int .i64 o, .int .i64 c] 23)) ((w.alloc (.cells #[.int .i64 o, .int .i64 c] 23)).alloc (.cells #[.int .i64 a, .int .i64 m] 25)) := (Below.refl _ _).alloc (by simp) _
  have hn := heap_alloc_new (w.alloc (.cells #[.int .i64 o, .int .i64 c] 23)) (.cells #[.int .i64 a, .int .i64 m] 25)
  rw [show (w.alloc (.cells #[.int .i64 o, .int .i64 c] 23)).heap.size = w.heap.size + 1 by simp] at hn
  refine ⟨((Below.refl _ w).alloc (Nat.le_refl _) _).alloc (by simp) _, by simp, (hk.cell (p := ⟨w.heap.size, 0, none⟩) (by simp)).trans hg0.1, (hk.cell (p := ⟨w.heap.size, 1, none⟩) (by simp)).trans hg0.2, ?_, ?_⟩
  · rw [cell_of_row _ _ _ _ _ _ hn]; rfl
  · rw [cell_of_row _ _ _ _ _ _ hn]; rfl

theorem pieces_no (o c a m : Int) (w : World) (ho : o ≤ 9223372036854775807) (hm : -9223372036854775808 ≤ m) (h : splitE o c a m ≠ 0) :
    Calls Try.prog 4 #[.agg #[.int .i64 o, .int .i64 c], .agg #[.int .i64 a, .int .i64 m]] w fun e w' => e = .returned (.bool true) ∧ Below w.heap.size w w' := by
  have C := Lib.hid (fun w1 => split_no o c a m w1 ho hm h)
  have D := Lib.hid (fun w1 => right_any o c w1)
  have AL := Lib.hid alive_any
  obtain ⟨W0, hW0⟩ : ∃ W0, (w.alloc (.cells #[.int .i64 o, .int .i64 c] 23)).alloc (.cells #[.int .i64 a, .int .i64 m] 25) = W0 := ⟨_, rfl⟩
  obtain ⟨hB, hsz, g0, g1, x0, x1⟩ := two_boxes w o c a m W0 hW0
  have HB := Lib.hid hB
  have hs0 : w.heap.size < W0.heap.size := by omega
  have hs1 : w.heap.size + 1 < W0.heap.size := by omega
  clear hB hsz ho hm
  cases hr : Em.rightB o c with
  | false =>
    rw [splitE_wrong hr] at C
    rw [hr] at D
    clear hr h
    go_enter Try.func4, Try.ntmps4
    go_wp2_with fail
    clear hW0
    refine (C.out _).mono ?_
    rintro e w1 ⟨rfl, hb⟩
    replace g0 := (hb.cell (p := ⟨w.heap.size, 0, none⟩) hs0).trans g0
    replace g1 := (hb.cell (p := ⟨w.heap.size, 1, none⟩) hs0).trans g1
    replace hs0 := Nat.lt_of_lt_of_le hs0 hb.size
    replace HB := Lib.hid (HB.out.trans (hb.mono HB.out.size))
    clear hb x0 x1 hs1
    go_wp2_with fail
    refine (AL.out _).mono ?_
    rintro e w2 ⟨rfl, hb⟩
    replace g0 := (hb.cell (p := ⟨w.heap.size, 0, none⟩) hs0).trans g0
    replace g1 := (hb.cell (p := ⟨w.heap.size, 1, none⟩) hs0).trans g1
    replace HB := Lib.hid (HB.out.trans (hb.mono HB.out.size))
    clear hb hs0
    go_wp2_with fail
    refine (D.out _).mono ?_
    rintro e w3 ⟨rfl, hb⟩
    replace HB := Lib.hid (HB.out.trans (hb.mono HB.out.size))
    clear hb
    go_wp2_with fail
    go_ret
    exact ⟨rfl, HB.out⟩
  | true =>
    have e2 : splitE o c a m = 2 := by
      rcases splitE_right hr (a := a) (m := m) with h1 | h1
      · exact (h h1.1).elim
      · exact h1.1
    rw [e2] at C
    clear hr h e2 D
    go_enter Try.func4, Try.ntmps4
    go_wp2_with fail
    clear hW0
    refine (C.out _).mono ?_
    rintro e w1 ⟨rfl, hb⟩
    replace HB := Lib.hid (HB.out.trans (hb.mono HB.out.size))
    clear hb x0 x1 hs1 g0 g1
    go_wp2_with fail
    refine (AL.out _).mono ?_
    rintro e w2 ⟨rfl, hb⟩
    replace HB := Lib.hid (HB.out.trans (hb.mono HB.out.size))
    clear hb hs0
    go_wp2_with fail
    go_ret
    exact ⟨rfl, HB.out⟩

/-- A long one: the live question alone. -/
theorem pieces_long (o c a m : Nat) (w : World) (hr : Em.rightB o c = true) (ham : a + m ≤ o) (hl : 4000 < m) :
    Calls Try.prog 4 #[.agg #[.int .i64 (o : Int), .int .i64 (c : Int)], .agg #[.int .i64 (a : Int), .int .i64 (m : Int)]] w fun e w' => e = .returned (.bool true) ∧ Below w.heap.size w w' := by
  have C := Lib.hid (fun w1 => split_ok o c a m w1 hr ham)
  have AL := Lib.hid alive_any
  obtain ⟨W0, hW0⟩ : ∃ W0, (w.alloc (.cells #[.int .i64 (o : Int), .int .i64 (c : Int)] 23)).alloc (.cells #[.int .i64 (a : Int), .int .i64 (m : Int)] 25) = W0 := ⟨_, rfl⟩
  obtain ⟨hB, hsz, g0, g1, x0, x1⟩ := two_boxes w o c a m W0 hW0
  have HB := Lib.hid hB
  have hs1 : w.heap.size + 1 < W0.heap.size := by omega
  have hd : decide (4000 < (m : Int)) = true := by simp; omega
  clear hB hsz hr ham
  go_enter Try.func4, Try.ntmps4
  go_wp2_with fail
  clear hW0
  refine (C.out _).mono ?_
  rintro e w1 ⟨v, rfl, hrow, hb⟩
  obtain ⟨va, vc, rfl⟩ : ∃ a' c', v = .slice a' (Em.split c a m).length c' := by
    rcases hrow.2 with ⟨h, h0⟩ | ⟨g, cap, cur, h, _⟩
    · exact ⟨none, 0, by rw [h, h0]⟩
    · exact ⟨_, _, h⟩
  replace x1 := (hb.cell (p := ⟨w.heap.size + 1, 1, none⟩) hs1).trans x1
  replace HB := Lib.hid (HB.out.trans (hb.mono HB.out.size))
  clear hb x0 g0 g1 hrow
  go_wp2_with fail
  refine (AL.out _).mono ?_
  rintro e w2 ⟨rfl, hb⟩
  replace HB := Lib.hid (HB.out.trans (hb.mono HB.out.size))
  clear hb
  go_wp2_with fail
  go_ret
  exact ⟨rfl, HB.out⟩
end Geo
end Go.Proofs.Ytkjlcjiegoillaa
