/- The walk of GeomSpans. -/
import Derived.Test.YtkjlcjiegoillaaGeomSame
namespace Go.Proofs.Ytkjlcjiegoillaa
namespace Geo
open Go.RowKit
set_option linter.unusedVariables false

/-- A row of pieces lies there. -/
structure RowAt (w : World) (p : Option Addr) (g : Nat) (l : List Em.Pc) : Prop where
  at_ : l ≠ [] → p = some ⟨g, 0, none⟩ ∧ g < w.heap.size
  cells : ∀ i (hi : i < l.length), w.cell? ⟨g, i * 3, none⟩ = some (.int .i64 (l[i].c : Int)) ∧ w.cell? ⟨g, i * 3 + 1, none⟩ = some (.int .i64 (l[i].f : Int)) ∧ w.cell? ⟨g, i * 3 + 2, none⟩ = some (.int .i64 (l[i].n : Int))
theorem RowAt.next {w w' : World} {p : Option Addr} {g : Nat} {l : List Em.Pc} (h : RowAt w p g l) (hb : Below w.heap.size w w') : RowAt w' p g l := by
  refine ⟨fun hl => ⟨(h.at_ hl).1, Nat.lt_of_lt_of_le (h.at_ hl).2 hb.size⟩, fun i hi => ?_⟩
  have hl : l ≠ [] := by intro e; rw [e] at hi; simp at hi
  have hg := (h.at_ hl).2
  obtain ⟨a, b, c⟩ := h.cells i hi
  exact ⟨(hb.cell (p := ⟨g, i * 3, none⟩) hg).trans a, (hb.cell (p := ⟨g, i * 3 + 1, none⟩) hg).trans b, (hb.cell (p := ⟨g, i * 3 + 2, none⟩) hg).trans c⟩
theorem RowAt.nil (w : World) : RowAt w none 0 [] := ⟨fun h => (h rfl).elim, fun i hi => by simp at hi⟩

/-- What stands of the law's two boxes. -/
structure Boxes (w W : World) (o c a m : Int) : Prop where
  bel : Below w.heap.size w W
  sz : w.heap.size + 1 < W.heap.size
  g0 : W.cell? ⟨w.heap.size, 0, none⟩ = some (.int .i64 o)
  g1 : W.cell? ⟨w.heap.size, 1, none⟩ = some (.int .i64 c)
  x0 : W.cell? ⟨w.heap.size + 1, 0, none⟩ = some (.int .i64 a)
  x1 : W.cell? ⟨w.heap.size + 1, 1, none⟩ = some (.int .i64 m)
theorem Boxes.next {w W W' : World} {o c a m : Int} (h : Boxes w W o c a m) (hb : Below W.heap.size W W') : Boxes w W' o c a m := by
  have hs := h.sz
  exact ⟨h.bel.trans (hb.mono h.bel.size), Nat.lt_of_lt_of_le h.sz hb.size, (hb.cell (p := ⟨w.heap.size, 0, none⟩) (by show w.heap.size < _; omega)).trans h.g0, (hb.cell (p := ⟨w.heap.size, 1, none⟩) (by show w.heap.size < _; omega)).trans h.g1,
    (hb.cell (p := ⟨w.heap.size + 1, 0, none⟩) hs).trans h.x0, (hb.cell (p := ⟨w.heap.size + 1, 1, none⟩) hs).trans h.x1⟩
/-- A span lies there. -/
def ExtAt (w : World) (b : Nat) (s l : Int) : Prop := w.heap[b]? = some (.cells #[.int .i64 s, .int .i64 l] 25 (0, 0))
theorem ExtAt.lt {w : World} {b : Nat} {s l : Int} (h : ExtAt w b s l) : b < w.heap.size := (Array.getElem?_eq_some_iff.1 h).1
theorem ExtAt.next {w w' : World} {b : Nat} {s l : Int} (h : ExtAt w b s l) (hb : Below w.heap.size w w') : ExtAt w' b s l := (hb.block b h.lt).trans h
theorem ExtAt.c0 {w : World} {b : Nat} {s l : Int} (h : ExtAt w b s l) : w.cell? ⟨b, 0, none⟩ = some (.int .i64 s) := by rw [cell_of_row _ _ _ _ _ _ h]; rfl
theorem ExtAt.c1 {w : World} {b : Nat} {s l : Int} (h : ExtAt w b s l) : w.cell? ⟨b, 1, none⟩ = some (.int .i64 l) := by rw [cell_of_row _ _ _ _ _ _ h]; rfl
theorem ExtAt.new (w : World) (s l : Int) : ExtAt (w.alloc (.cells #[.int .i64 s, .int .i64 l] 25)) w.heap.size s l := heap_alloc_new _ _
theorem below_alloc (w : World) (o : Obj) : Below w.heap.size w (w.alloc o) := (Below.refl _ w).alloc (Nat.le_refl _) _

theorem spans_great (o c k a m : Int) (w : World) (h1 : 4000 < o) (h2 : o ≤ 1048576) : Calls Try.prog 3 #[.agg #[.int .i64 o, .int .i64 c], .int .i64 k, .agg #[.int .i64 a, .int .i64 m]] w fun e w' => e = .returned (.bool true) ∧ Below w.heap.size w w' := by
  have AL := Lib.hid alive_any
  obtain ⟨W0, hW0⟩ : ∃ W0, (w.alloc (.cells #[.int .i64 o, .int .i64 c] 23)).alloc (.cells #[.int .i64 a, .int .i64 m] 25) = W0 := ⟨_, rfl⟩
  obtain ⟨hB, hsz, g0, g1, x0, x1⟩ := two_boxes w o c a m W0 hW0
  have HB := Lib.hid hB
  have d1 : decide (4000 < o) = true := by simpa using h1
  have d2 : decide (o ≤ 1048576) = true := by simpa using h2
  clear hB hsz h1 h2
  go_enter Try.func3, Try.ntmps3
  go_wp2_with fail
  clear hW0
  refine (AL.out _).mono ?_
  rintro e w1 ⟨rfl, hb⟩
  go_wp2_with fail
  go_ret
  exact ⟨rfl, HB.out.trans (hb.mono HB.out.size)⟩

set_option maxRecDepth 100000 in
set_option maxHeartbeats 2000000 in
theorem spans_run (o c k a m s1 s2 R E M : Int) (r : Bool) (l : List Em.Pc) (n : Nat) (hn : n = l.length) (hn2 : n ≤ 9223372036854775807) (w : World)
    (SP : Hid (∀ w1 : World, Calls Try.prog 7 #[.agg #[.int .i64 o, .int .i64 c], .int .i64 k] w1 fun e w' => e = .returned (.tuple #[.agg #[.int .i64 s1, .int .i64 s2], .int .i64 R]) ∧ Below w1.heap.size w1 w'))
    (RS : Hid (∀ w1 : World, Calls Try.prog 8 #[.int .i64 o, .int .i64 c, .int .i64 k] w1 fun e w' => e = .returned (.tuple #[.agg #[.int .i64 s1, .int .i64 s2], .int .i64 R]) ∧ Below w1.heap.size w1 w'))
    (SL : Hid (∀ w1 : World, Calls Try.prog 9 #[.agg #[.int .i64 o, .int .i64 c], .int .i64 a, .int .i64 m] w1 fun e w' => ∃ p g cc, e = .returned (.tuple #[.slice p n cc, .int .i64 E]) ∧ RowAt w' p g l ∧ Below w1.heap.size w1 w'))
    (RL : Hid (∀ w1 : World, Calls Try.prog 10 #[.int .i64 o, .int .i64 c, .agg #[.int .i64 a, .int .i64 m]] w1 fun e w' => ∃ p g cc, e = .returned (.tuple #[.slice p n cc, .int .i64 E]) ∧ RowAt w' p g l ∧ Below w1.heap.size w1 w'))
    (RT : Hid (∀ w1 : World, Calls Try.prog 12 #[.agg #[.int .i64 o, .int .i64 c]] w1 fun e w' => e = .returned (.bool r) ∧ Below w1.heap.size w1 w'))
    (RR : Hid (∀ w1 : World, Calls Try.prog 13 #[.int .i64 o, .int .i64 c] w1 fun e w' => e = .returned (.bool r) ∧ w1 = w'))
    (CH : Hid (∀ w1 : World, Calls Try.prog 14 #[.agg #[.int .i64 o, .int .i64 c]] w1 fun e w' => e = .returned (.int .i64 M) ∧ Below w1.heap.size w1 w'))
    (RC : Hid (∀ w1 : World, Calls Try.prog 15 #[.int .i64 o, .int .i64 c] w1 fun e w' => e = .returned (.int .i64 M) ∧ w1 = w'))
    (hG : decide (4000 < o) = false ∨ (decide (4000 < o) = true ∧ decide (o ≤ 1048576) = false)) :
    Calls Try.prog 3 #[.agg #[.int .i64 o, .int .i64 c], .int .i64 k, .agg #[.int .i64 a, .int .i64 m]] w fun e w' => e = .returned (.bool true) ∧ Below w.heap.size w w' := by
  have AL := Lib.hid alive_any
  have HN := Lib.hid hn
  obtain ⟨W0, hW0⟩ : ∃ W0, (w.alloc (.cells #[.int .i64 o, .int .i64 c] 23)).alloc (.cells #[.int .i64 a, .int .i64 m] 25) = W0 := ⟨_, rfl⟩
  obtain ⟨hB, hsz, g0, g1, x0, x1⟩ := two_boxes w o c a m W0 hW0
  have BO : Hid (Boxes w W0 o c a m) := ⟨hB, by omega, g0, g1, x0, x1⟩
  clear hB hsz hn
  rcases hG with d1 | ⟨d1, d2⟩
  all_goals
    go_enter Try.func3, Try.ntmps3
    go_wp2_with fail
    clear hW0
    refine (SP.out _).mono ?_
    rintro e w1 ⟨rfl, hb⟩
    have EA := Lib.hid (ExtAt.new w1 s1 s2)
    have BO1 := Lib.hid ((BO.out.next hb).next (below_alloc w1 (.cells #[.int .i64 s1, .int .i64 s2] 25)))
    obtain ⟨W1, hW1⟩ : ∃ W1, w1.alloc (.cells #[.int .i64 s1, .int .i64 s2] 25) = W1 := ⟨_, rfl⟩
    rw [hW1] at EA BO1
    clear hb g0 g1 x0 x1
    obtain ⟨_, _, g0, g1, x0, x1⟩ := BO1.out
    go_wp2_with fail
    clear hW1
    refine (RS.out _).mono ?_
    rintro e w2 ⟨rfl, hb⟩
    have EB := Lib.hid (ExtAt.new w2 s1 s2)
    have EA2 := Lib.hid ((EA.out.next hb).next (below_alloc w2 (.cells #[.int .i64 s1, .int .i64 s2] 25)))
    have BO2 := Lib.hid ((BO1.out.next hb).next (below_alloc w2 (.cells #[.int .i64 s1, .int .i64 s2] 25)))
    obtain ⟨W2, hW2⟩ : ∃ W2, w2.alloc (.cells #[.int .i64 s1, .int .i64 s2] 25) = W2 := ⟨_, rfl⟩
    rw [hW2] at EB EA2 BO2
    clear hb g0 g1 x0 x1 EA BO1 BO
    obtain ⟨_, _, g0, g1, x0, x1⟩ := BO2.out
    go_wp2_with fail
    clear hW2
    refine (SL.out _).mono ?_
    rintro e w3 ⟨p, g, cc, rfl, hrow, hb⟩
    have RA := Lib.hid hrow
    have EA3 := Lib.hid (EA2.out.next hb)
    have EB3 := Lib.hid (EB.out.next hb)
    have BO3 := Lib.hid (BO2.out.next hb)
    clear hb hrow g0 g1 x0 x1 EA2 EB BO2
    obtain ⟨_, _, g0, g1, x0, x1⟩ := BO3.out
    go_wp2_with fail
    refine (RL.out _).mono ?_
    rintro e w4 ⟨q, j, dd, rfl, hrow, hb⟩
    have RA4 := Lib.hid (RA.out.next hb)
    have RB := Lib.hid hrow
    have EA4 := Lib.hid (EA3.out.next hb)
    have EB4 := Lib.hid (EB3.out.next hb)
    have BO4 := Lib.hid (BO3.out.next hb)
    have SM := Lib.hid (same_any (w := w4) l n HN.out hn2 p q g j cc dd (fun h => (RA4.out.at_ h).1) (fun h => (RB.out.at_ h).1) RA4.out.cells RB.out.cells)
    clear hb hrow g0 g1 x0 x1 EA3 EB3 BO3 RA
    go_wp2_with fail
    refine SM.out.mono ?_
    rintro e w5 ⟨rfl, hb⟩
    have EA5 := Lib.hid (EA4.out.next hb)
    have EB5 := Lib.hid (EB4.out.next hb)
    have BO5 := Lib.hid (BO4.out.next hb)
    clear hb SM RA4 RB EA4 EB4 BO4
    obtain ⟨_, hsz, g0, g1, _, _⟩ := BO5.out
    have s0 := EA5.out.c0
    have s1' := EA5.out.c1
    have t0 := EB5.out.c0
    have t1' := EB5.out.c1
    have k1 : w.heap.size < w5.heap.size := by omega
    have k2 := EA5.out.lt
    have k3 := EB5.out.lt
    go_wp2_with fail
    go_region_held3 (fun w' => w'.cell? ⟨w.heap.size, 0, none⟩ = some (.int .i64 o) ∧ w'.cell? ⟨w.heap.size, 1, none⟩ = some (.int .i64 c) ∧ w'.cell? ⟨w1.heap.size, 0, none⟩ = some (.int .i64 s1) ∧ w'.cell? ⟨w1.heap.size, 1, none⟩ = some (.int .i64 s2) ∧ w'.cell? ⟨w2.heap.size, 0, none⟩ = some (.int .i64 s1) ∧ w'.cell? ⟨w2.heap.size, 1, none⟩ = some (.int .i64 s2))
      (first | go_keep | (refine ⟨?_, ?_, ?_, ?_, ?_, ?_⟩ <;> assumption) | (exact ⟨(BX.out.cell (p := ⟨w.heap.size, 0, none⟩) k1).trans g0, (BX.out.cell (p := ⟨w.heap.size, 1, none⟩) k1).trans g1, (BX.out.cell (p := ⟨w1.heap.size, 0, none⟩) k2).trans s0, (BX.out.cell (p := ⟨w1.heap.size, 1, none⟩) k2).trans s1', (BX.out.cell (p := ⟨w2.heap.size, 0, none⟩) k3).trans t0, (BX.out.cell (p := ⟨w2.heap.size, 1, none⟩) k3).trans t1'⟩))
      (first | (go_at_call 6; refine (AL.out _).mono ?_; rintro e v1 ⟨rfl, hb⟩; have BX : Hid (Below w5.heap.size w5 v1) := (Below.refl _ _).drew.trans hb; clear hb) | (go_at_call 12; refine (RT.out _).mono ?_; rintro e v2 ⟨rfl, hb⟩; have BY := BX; have BX : Hid (Below w5.heap.size w5 v2) := BY.out.trans (hb.mono BY.out.size); clear hb) | (go_at_call 13; refine (RR.out _).mono ?_; rintro e v3 ⟨rfl, rfl⟩) | (go_at_call 14; refine (CH.out _).mono ?_; rintro e v4 ⟨rfl, hb⟩; have BY := BX; have BX : Hid (Below w5.heap.size w5 v4) := BY.out.trans (hb.mono BY.out.size); clear hb) | (go_at_call 15; refine (RC.out _).mono ?_; rintro e v5 ⟨rfl, rfl⟩))
    all_goals
      go_wp2_with fail
      go_ret
      exact ⟨rfl, BO5.out.bel.trans (BX.out.mono BO5.out.bel.size)⟩
end Geo
end Go.Proofs.Ytkjlcjiegoillaa
