/- The walk of GeomRoom. -/
import Derived.Test.YtkjlcjiegoillaaGeomAlive
namespace Go.Proofs.Ytkjlcjiegoillaa
namespace Geo
open Go.RowKit
set_option linter.unusedVariables false

/-- Behind a call: the geometry's box stands. -/
theorem next_call {w a b : World} {o c : Int} (HB : Below w.heap.size w a) (hb : Below a.heap.size a b) (h : w.heap.size < a.heap.size) (g0 : a.cell? ⟨w.heap.size, 0, none⟩ = some (.int .i64 o)) (g1 : a.cell? ⟨w.heap.size, 1, none⟩ = some (.int .i64 c)) :
    w.heap.size < b.heap.size ∧ b.cell? ⟨w.heap.size, 0, none⟩ = some (.int .i64 o) ∧ b.cell? ⟨w.heap.size, 1, none⟩ = some (.int .i64 c) ∧ Hid (Below w.heap.size w b) :=
  ⟨Nat.lt_of_lt_of_le h hb.size, (hb.cell (p := ⟨w.heap.size, 0, none⟩) h).trans g0, (hb.cell (p := ⟨w.heap.size, 1, none⟩) h).trans g1, HB.trans (hb.mono HB.size)⟩

theorem room_law (o c n s x e m i : Int) (w : World)
    (SZ : Hid (∀ w1 : World, Calls Try.prog 16 #[.agg #[.int .i64 o, .int .i64 c], .int .i64 n] w1 fun r w' => r = .returned (.tuple #[.int .i64 x, .int .i64 e]) ∧ Below w1.heap.size w1 w'))
    (RM : Hid (∀ w1 : World, Calls Try.prog 17 #[.agg #[.int .i64 o, .int .i64 c], .int .i64 s] w1 fun r w' => r = .returned (.tuple #[.int .i64 m, .int .i64 i]) ∧ Below w1.heap.size w1 w'))
    (F : (e == 0) = false ∨ (e = 0 ∧ decide (x ≤ 1048576) = false) ∨ (e = 0 ∧ 1 ≤ x ∧ x ≤ 1048576 ∧ 2 ≤ n ∧ n ≤ 1048576 ∧
      Hid (∀ w1 : World, Calls Try.prog 17 #[.agg #[.int .i64 o, .int .i64 c], .int .i64 x] w1 fun r w' => r = .returned (.tuple #[.int .i64 n, .int .i64 0]) ∧ Below w1.heap.size w1 w') ∧
      Hid (∀ w1 : World, Calls Try.prog 17 #[.agg #[.int .i64 o, .int .i64 c], .int .i64 (x - 1)] w1 fun r w' => r = .returned (.tuple #[.int .i64 (n - 1), .int .i64 0]) ∧ Below w1.heap.size w1 w')) ∨
      (e = 0 ∧ 1 ≤ x ∧ x ≤ 1048576 ∧ n = 1 ∧
      Hid (∀ w1 : World, Calls Try.prog 17 #[.agg #[.int .i64 o, .int .i64 c], .int .i64 x] w1 fun r w' => r = .returned (.tuple #[.int .i64 1, .int .i64 0]) ∧ Below w1.heap.size w1 w') ∧
      Hid (∀ w1 : World, Calls Try.prog 17 #[.agg #[.int .i64 o, .int .i64 c], .int .i64 (x - 1)] w1 fun r w' => r = .returned (.tuple #[.int .i64 0, .int .i64 111]) ∧ Below w1.heap.size w1 w')))
    (S : ((i != 0) = true ∧ m = 0) ∨ (i = 0 ∧ 0 ≤ m ∧ m ≤ 1048576 ∧ ∃ (y z : Int), y ≤ s ∧ s < z ∧
      Hid (∀ w1 : World, Calls Try.prog 16 #[.agg #[.int .i64 o, .int .i64 c], .int .i64 m] w1 fun r w' => r = .returned (.tuple #[.int .i64 y, .int .i64 0]) ∧ Below w1.heap.size w1 w') ∧
      Hid (∀ w1 : World, Calls Try.prog 16 #[.agg #[.int .i64 o, .int .i64 c], .int .i64 (m + 1)] w1 fun r w' => r = .returned (.tuple #[.int .i64 z, .int .i64 0]) ∧ Below w1.heap.size w1 w'))) :
    Calls Try.prog 5 #[.agg #[.int .i64 o, .int .i64 c], .int .i64 n, .int .i64 s] w fun r w' => r = .returned (.bool true) ∧ Below w.heap.size w w' := by
  have HB : Hid (Below w.heap.size w (w.alloc (.cells #[.int .i64 o, .int .i64 c] 23))) := (Below.refl _ w).alloc (Nat.le_refl _) _
  have hg0 := cell_alloc2 w o c
  have hs0 : w.heap.size < (w.alloc (.cells #[.int .i64 o, .int .i64 c] 23)).heap.size := by simp
  have AL := Lib.hid alive_any
  obtain ⟨g0, g1⟩ := hg0
  rcases F with HE | ⟨rfl, HX⟩ | ⟨rfl, hx1, hx2, hn1, hn2, R1, R2⟩ | ⟨rfl, hx1, hx2, rfl, R1, R2⟩
  · rcases S with ⟨HI, rfl⟩ | ⟨rfl, hm1, hm2, y, z, hy, hz, S1, S2⟩
    · go_enter Try.func5, Try.ntmps5
      go_wp2_with fail
      refine (SZ.out _).mono ?_
      rintro r w1 ⟨rfl, hb⟩
      obtain ⟨j0, j1, j2, HB⟩ := next_call HB.out hb hs0 g0 g1
      clear hb hs0 g0 g1
      obtain ⟨hs0, g0, g1⟩ := And.intro j0 (And.intro j1 j2)
      clear j0 j1 j2
      go_wp2_with fail
      refine (RM.out _).mono ?_
      rintro r w1 ⟨rfl, hb⟩
      obtain ⟨j0, j1, j2, HB⟩ := next_call HB.out hb hs0 g0 g1
      clear hb hs0 g0 g1
      obtain ⟨hs0, g0, g1⟩ := And.intro j0 (And.intro j1 j2)
      clear j0 j1 j2
      go_wp2_with fail
      refine (AL.out _).mono ?_
      rintro r w1 ⟨rfl, hb⟩
      have HB2 := Lib.hid (HB.out.trans (hb.mono HB.out.size))
      clear hb
      go_wp2_with fail
      go_ret
      exact ⟨rfl, HB2.out⟩
    · go_enter Try.func5, Try.ntmps5
      go_wp2_with fail
      refine (SZ.out _).mono ?_
      rintro r w1 ⟨rfl, hb⟩
      obtain ⟨j0, j1, j2, HB⟩ := next_call HB.out hb hs0 g0 g1
      clear hb hs0 g0 g1
      obtain ⟨hs0, g0, g1⟩ := And.intro j0 (And.intro j1 j2)
      clear j0 j1 j2
      go_wp2_with fail
      refine (RM.out _).mono ?_
      rintro r w1 ⟨rfl, hb⟩
      obtain ⟨j0, j1, j2, HB⟩ := next_call HB.out hb hs0 g0 g1
      clear hb hs0 g0 g1
      obtain ⟨hs0, g0, g1⟩ := And.intro j0 (And.intro j1 j2)
      clear j0 j1 j2
      go_wp2_with fail
      refine (S1.out _).mono ?_
      rintro r w1 ⟨rfl, hb⟩
      obtain ⟨j0, j1, j2, HB⟩ := next_call HB.out hb hs0 g0 g1
      clear hb hs0 g0 g1
      obtain ⟨hs0, g0, g1⟩ := And.intro j0 (And.intro j1 j2)
      clear j0 j1 j2
      go_wp2_with fail
      refine (S2.out _).mono ?_
      rintro r w1 ⟨rfl, hb⟩
      obtain ⟨j0, j1, j2, HB⟩ := next_call HB.out hb hs0 g0 g1
      clear hb hs0 g0 g1
      obtain ⟨hs0, g0, g1⟩ := And.intro j0 (And.intro j1 j2)
      clear j0 j1 j2
      go_wp2_with fail
      refine (AL.out _).mono ?_
      rintro r w1 ⟨rfl, hb⟩
      have HB2 := Lib.hid (HB.out.trans (hb.mono HB.out.size))
      clear hb
      go_wp2_with fail
      go_ret
      exact ⟨rfl, HB2.out⟩
  · rcases S with ⟨HI, rfl⟩ | ⟨rfl, hm1, hm2, y, z, hy, hz, S1, S2⟩
    · go_enter Try.func5, Try.ntmps5
      go_wp2_with fail
      refine (SZ.out _).mono ?_
      rintro r w1 ⟨rfl, hb⟩
      obtain ⟨j0, j1, j2, HB⟩ := next_call HB.out hb hs0 g0 g1
      clear hb hs0 g0 g1
      obtain ⟨hs0, g0, g1⟩ := And.intro j0 (And.intro j1 j2)
      clear j0 j1 j2
      go_wp2_with fail
      refine (RM.out _).mono ?_
      rintro r w1 ⟨rfl, hb⟩
      obtain ⟨j0, j1, j2, HB⟩ := next_call HB.out hb hs0 g0 g1
      clear hb hs0 g0 g1
      obtain ⟨hs0, g0, g1⟩ := And.intro j0 (And.intro j1 j2)
      clear j0 j1 j2
      go_wp2_with fail
      refine (AL.out _).mono ?_
      rintro r w1 ⟨rfl, hb⟩
      have HB2 := Lib.hid (HB.out.trans (hb.mono HB.out.size))
      clear hb
      go_wp2_with fail
      go_ret
      exact ⟨rfl, HB2.out⟩
    · go_enter Try.func5, Try.ntmps5
      go_wp2_with fail
      refine (SZ.out _).mono ?_
      rintro r w1 ⟨rfl, hb⟩
      obtain ⟨j0, j1, j2, HB⟩ := next_call HB.out hb hs0 g0 g1
      clear hb hs0 g0 g1
      obtain ⟨hs0, g0, g1⟩ := And.intro j0 (And.intro j1 j2)
      clear j0 j1 j2
      go_wp2_with fail
      refine (RM.out _).mono ?_
      rintro r w1 ⟨rfl, hb⟩
      obtain ⟨j0, j1, j2, HB⟩ := next_call HB.out hb hs0 g0 g1
      clear hb hs0 g0 g1
      obtain ⟨hs0, g0, g1⟩ := And.intro j0 (And.intro j1 j2)
      clear j0 j1 j2
      go_wp2_with fail
      refine (S1.out _).mono ?_
      rintro r w1 ⟨rfl, hb⟩
      obtain ⟨j0, j1, j2, HB⟩ := next_call HB.out hb hs0 g0 g1
      clear hb hs0 g0 g1
      obtain ⟨hs0, g0, g1⟩ := And.intro j0 (And.intro j1 j2)
      clear j0 j1 j2
      go_wp2_with fail
      refine (S2.out _).mono ?_
      rintro r w1 ⟨rfl, hb⟩
      obtain ⟨j0, j1, j2, HB⟩ := next_call HB.out hb hs0 g0 g1
      clear hb hs0 g0 g1
      obtain ⟨hs0, g0, g1⟩ := And.intro j0 (And.intro j1 j2)
      clear j0 j1 j2
      go_wp2_with fail
      refine (AL.out _).mono ?_
      rintro r w1 ⟨rfl, hb⟩
      have HB2 := Lib.hid (HB.out.trans (hb.mono HB.out.size))
      clear hb
      go_wp2_with fail
      go_ret
      exact ⟨rfl, HB2.out⟩
  · rcases S with ⟨HI, rfl⟩ | ⟨rfl, hm1, hm2, y, z, hy, hz, S1, S2⟩
    · go_enter Try.func5, Try.ntmps5
      go_wp2_with fail
      refine (SZ.out _).mono ?_
      rintro r w1 ⟨rfl, hb⟩
      obtain ⟨j0, j1, j2, HB⟩ := next_call HB.out hb hs0 g0 g1
      clear hb hs0 g0 g1
      obtain ⟨hs0, g0, g1⟩ := And.intro j0 (And.intro j1 j2)
      clear j0 j1 j2
      have hd : decide (1 < n) = true := by simp; omega
      go_wp2_with fail
      refine (R1.out _).mono ?_
      rintro r w1 ⟨rfl, hb⟩
      obtain ⟨j0, j1, j2, HB⟩ := next_call HB.out hb hs0 g0 g1
      clear hb hs0 g0 g1
      obtain ⟨hs0, g0, g1⟩ := And.intro j0 (And.intro j1 j2)
      clear j0 j1 j2
      go_wp2_with fail
      refine (R2.out _).mono ?_
      rintro r w1 ⟨rfl, hb⟩
      obtain ⟨j0, j1, j2, HB⟩ := next_call HB.out hb hs0 g0 g1
      clear hb hs0 g0 g1
      obtain ⟨hs0, g0, g1⟩ := And.intro j0 (And.intro j1 j2)
      clear j0 j1 j2
      go_wp2_with fail
      refine (RM.out _).mono ?_
      rintro r w1 ⟨rfl, hb⟩
      obtain ⟨j0, j1, j2, HB⟩ := next_call HB.out hb hs0 g0 g1
      clear hb hs0 g0 g1
      obtain ⟨hs0, g0, g1⟩ := And.intro j0 (And.intro j1 j2)
      clear j0 j1 j2
      go_wp2_with fail
      refine (AL.out _).mono ?_
      rintro r w1 ⟨rfl, hb⟩
      have HB2 := Lib.hid (HB.out.trans (hb.mono HB.out.size))
      clear hb
      go_wp2_with fail
      go_ret
      exact ⟨rfl, HB2.out⟩
    · go_enter Try.func5, Try.ntmps5
      go_wp2_with fail
      refine (SZ.out _).mono ?_
      rintro r w1 ⟨rfl, hb⟩
      obtain ⟨j0, j1, j2, HB⟩ := next_call HB.out hb hs0 g0 g1
      clear hb hs0 g0 g1
      obtain ⟨hs0, g0, g1⟩ := And.intro j0 (And.intro j1 j2)
      clear j0 j1 j2
      have hd : decide (1 < n) = true := by simp; omega
      go_wp2_with fail
      refine (R1.out _).mono ?_
      rintro r w1 ⟨rfl, hb⟩
      obtain ⟨j0, j1, j2, HB⟩ := next_call HB.out hb hs0 g0 g1
      clear hb hs0 g0 g1
      obtain ⟨hs0, g0, g1⟩ := And.intro j0 (And.intro j1 j2)
      clear j0 j1 j2
      go_wp2_with fail
      refine (R2.out _).mono ?_
      rintro r w1 ⟨rfl, hb⟩
      obtain ⟨j0, j1, j2, HB⟩ := next_call HB.out hb hs0 g0 g1
      clear hb hs0 g0 g1
      obtain ⟨hs0, g0, g1⟩ := And.intro j0 (And.intro j1 j2)
      clear j0 j1 j2
      go_wp2_with fail
      refine (RM.out _).mono ?_
      rintro r w1 ⟨rfl, hb⟩
      obtain ⟨j0, j1, j2, HB⟩ := next_call HB.out hb hs0 g0 g1
      clear hb hs0 g0 g1
      obtain ⟨hs0, g0, g1⟩ := And.intro j0 (And.intro j1 j2)
      clear j0 j1 j2
      go_wp2_with fail
      refine (S1.out _).mono ?_
      rintro r w1 ⟨rfl, hb⟩
      obtain ⟨j0, j1, j2, HB⟩ := next_call HB.out hb hs0 g0 g1
      clear hb hs0 g0 g1
      obtain ⟨hs0, g0, g1⟩ := And.intro j0 (And.intro j1 j2)
      clear j0 j1 j2
      go_wp2_with fail
      refine (S2.out _).mono ?_
      rintro r w1 ⟨rfl, hb⟩
      obtain ⟨j0, j1, j2, HB⟩ := next_call HB.out hb hs0 g0 g1
      clear hb hs0 g0 g1
      obtain ⟨hs0, g0, g1⟩ := And.intro j0 (And.intro j1 j2)
      clear j0 j1 j2
      go_wp2_with fail
      refine (AL.out _).mono ?_
      rintro r w1 ⟨rfl, hb⟩
      have HB2 := Lib.hid (HB.out.trans (hb.mono HB.out.size))
      clear hb
      go_wp2_with fail
      go_ret
      exact ⟨rfl, HB2.out⟩
  · rcases S with ⟨HI, rfl⟩ | ⟨rfl, hm1, hm2, y, z, hy, hz, S1, S2⟩
    · go_enter Try.func5, Try.ntmps5
      go_wp2_with fail
      refine (SZ.out _).mono ?_
      rintro r w1 ⟨rfl, hb⟩
      obtain ⟨j0, j1, j2, HB⟩ := next_call HB.out hb hs0 g0 g1
      clear hb hs0 g0 g1
      obtain ⟨hs0, g0, g1⟩ := And.intro j0 (And.intro j1 j2)
      clear j0 j1 j2
      go_wp2_with fail
      refine (R1.out _).mono ?_
      rintro r w1 ⟨rfl, hb⟩
      obtain ⟨j0, j1, j2, HB⟩ := next_call HB.out hb hs0 g0 g1
      clear hb hs0 g0 g1
      obtain ⟨hs0, g0, g1⟩ := And.intro j0 (And.intro j1 j2)
      clear j0 j1 j2
      go_wp2_with fail
      refine (R2.out _).mono ?_
      rintro r w1 ⟨rfl, hb⟩
      obtain ⟨j0, j1, j2, HB⟩ := next_call HB.out hb hs0 g0 g1
      clear hb hs0 g0 g1
      obtain ⟨hs0, g0, g1⟩ := And.intro j0 (And.intro j1 j2)
      clear j0 j1 j2
      go_wp2_with fail
      refine (RM.out _).mono ?_
      rintro r w1 ⟨rfl, hb⟩
      obtain ⟨j0, j1, j2, HB⟩ := next_call HB.out hb hs0 g0 g1
      clear hb hs0 g0 g1
      obtain ⟨hs0, g0, g1⟩ := And.intro j0 (And.intro j1 j2)
      clear j0 j1 j2
      go_wp2_with fail
      refine (AL.out _).mono ?_
      rintro r w1 ⟨rfl, hb⟩
      have HB2 := Lib.hid (HB.out.trans (hb.mono HB.out.size))
      clear hb
      go_wp2_with fail
      go_ret
      exact ⟨rfl, HB2.out⟩
    · go_enter Try.func5, Try.ntmps5
      go_wp2_with fail
      refine (SZ.out _).mono ?_
      rintro r w1 ⟨rfl, hb⟩
      obtain ⟨j0, j1, j2, HB⟩ := next_call HB.out hb hs0 g0 g1
      clear hb hs0 g0 g1
      obtain ⟨hs0, g0, g1⟩ := And.intro j0 (And.intro j1 j2)
      clear j0 j1 j2
      go_wp2_with fail
      refine (R1.out _).mono ?_
      rintro r w1 ⟨rfl, hb⟩
      obtain ⟨j0, j1, j2, HB⟩ := next_call HB.out hb hs0 g0 g1
      clear hb hs0 g0 g1
      obtain ⟨hs0, g0, g1⟩ := And.intro j0 (And.intro j1 j2)
      clear j0 j1 j2
      go_wp2_with fail
      refine (R2.out _).mono ?_
      rintro r w1 ⟨rfl, hb⟩
      obtain ⟨j0, j1, j2, HB⟩ := next_call HB.out hb hs0 g0 g1
      clear hb hs0 g0 g1
      obtain ⟨hs0, g0, g1⟩ := And.intro j0 (And.intro j1 j2)
      clear j0 j1 j2
      go_wp2_with fail
      refine (RM.out _).mono ?_
      rintro r w1 ⟨rfl, hb⟩
      obtain ⟨j0, j1, j2, HB⟩ := next_call HB.out hb hs0 g0 g1
      clear hb hs0 g0 g1
      obtain ⟨hs0, g0, g1⟩ := And.intro j0 (And.intro j1 j2)
      clear j0 j1 j2
      go_wp2_with fail
      refine (S1.out _).mono ?_
      rintro r w1 ⟨rfl, hb⟩
      obtain ⟨j0, j1, j2, HB⟩ := next_call HB.out hb hs0 g0 g1
      clear hb hs0 g0 g1
      obtain ⟨hs0, g0, g1⟩ := And.intro j0 (And.intro j1 j2)
      clear j0 j1 j2
      go_wp2_with fail
      refine (S2.out _).mono ?_
      rintro r w1 ⟨rfl, hb⟩
      obtain ⟨j0, j1, j2, HB⟩ := next_call HB.out hb hs0 g0 g1
      clear hb hs0 g0 g1
      obtain ⟨hs0, g0, g1⟩ := And.intro j0 (And.intro j1 j2)
      clear j0 j1 j2
      go_wp2_with fail
      refine (AL.out _).mono ?_
      rintro r w1 ⟨rfl, hb⟩
      have HB2 := Lib.hid (HB.out.trans (hb.mono HB.out.size))
      clear hb
      go_wp2_with fail
      go_ret
      exact ⟨rfl, HB2.out⟩

theorem SZof (o c : Int) (n : Int) : ∃ x e, (∀ w1 : World, Calls Try.prog 16 #[.agg #[.int .i64 o, .int .i64 c], .int .i64 n] w1 fun r w' => r = .returned (.tuple #[.int .i64 x, .int .i64 e]) ∧ Below w1.heap.size w1 w') ∧
    (((e == 0) = false) ∨ (e = 0 ∧ Em.rightB o c = true ∧ 1 ≤ n ∧ n ≤ 1048576 ∧ x = (Em.size c.toNat n.toNat : Nat))) := by
  by_cases h : refuse o c n 1 1048576 = 0
  · have hb : Em.rightB o c = true ∧ 1 ≤ n ∧ n ≤ 1048576 := by
      unfold refuse at h
      split at h
      · rename_i hr
        split at h
        · cases h
        · exact ⟨hr, by omega, by omega⟩
      · cases h
    obtain ⟨hr, h1, h2⟩ := hb
    obtain ⟨a, b, rfl, rfl, _⟩ := Em.right_nat hr
    obtain ⟨k, rfl⟩ : ∃ k : Nat, n = (k : Int) := ⟨n.toNat, by omega⟩
    exact ⟨_, 0, fun w1 => size_ok a b k w1 hr (by omega) (by omega), .inr ⟨rfl, hr, h1, h2, by rw [Int.toNat_natCast, Int.toNat_natCast]⟩⟩
  · exact ⟨0, _, fun w1 => size_no o c n w1 h, .inl (by simpa using h)⟩
theorem RMof (o c : Int) (s : Int) : ∃ m i, (∀ w1 : World, Calls Try.prog 17 #[.agg #[.int .i64 o, .int .i64 c], .int .i64 s] w1 fun r w' => r = .returned (.tuple #[.int .i64 m, .int .i64 i]) ∧ Below w1.heap.size w1 w') ∧
    (((i != 0) = true ∧ m = 0) ∨ (i = 0 ∧ Em.rightB o c = true ∧ 0 ≤ s ∧ s ≤ 1048576 ∧ m = (Em.room c.toNat s.toNat : Nat) ∧ 0 < Em.room c.toNat s.toNat)) := by
  by_cases h : refuse o c s 0 1048576 = 0
  · have hb : Em.rightB o c = true ∧ 0 ≤ s ∧ s ≤ 1048576 := by
      unfold refuse at h
      split at h
      · rename_i hr
        split at h
        · cases h
        · exact ⟨hr, by omega, by omega⟩
      · cases h
    obtain ⟨hr, h1, h2⟩ := hb
    obtain ⟨a, b, rfl, rfl, _⟩ := Em.right_nat hr
    obtain ⟨k, rfl⟩ : ∃ k : Nat, s = (k : Int) := ⟨s.toNat, by omega⟩
    refine ⟨_, _, fun w1 => room_ok a b k w1 hr (by omega), ?_⟩
    rw [Int.toNat_natCast, Int.toNat_natCast]
    by_cases hz : Em.room b k = 0
    · exact .inl ⟨by rw [hz]; rfl, by rw [hz]; rfl⟩
    · exact .inr ⟨noneE_pos hz, hr, h1, h2, rfl, by omega⟩
  · exact ⟨0, _, fun w1 => room_no o c s w1 h, .inl ⟨by simpa using h, rfl⟩⟩
theorem room_all (o c n s : Int) (w : World) : Calls Try.prog 5 #[.agg #[.int .i64 o, .int .i64 c], .int .i64 n, .int .i64 s] w fun r w' => r = .returned (.bool true) ∧ Below w.heap.size w w' := by
  obtain ⟨x, e, hS, hF⟩ := SZof o c n
  obtain ⟨m, i, hR, hT⟩ := RMof o c s
  refine room_law o c n s x e m i w (Lib.hid hS) (Lib.hid hR) ?_ ?_
  · rcases hF with h | ⟨rfl, hr, h1, h2, hx⟩
    · exact .inl h
    · by_cases hle : x ≤ 1048576
      · obtain ⟨a, b, rfl, rfl, _, _, hb1, hb2⟩ := Em.right_nat hr
        obtain ⟨k, rfl⟩ : ∃ k : Nat, n = (k : Int) := ⟨n.toNat, by omega⟩
        rw [Int.toNat_natCast, Int.toNat_natCast] at hx
        have hc : 0 < b := by omega
        have hpos : 1 ≤ Em.size b k := by unfold Em.size; omega
        have q1 := fun w1 => room_ok a b (Em.size b k) w1 hr (by omega)
        have q2 := fun w1 => room_ok a b (Em.size b k - 1) w1 hr (by omega)
        rw [Em.room_size hc, noneE_pos (show k ≠ 0 by omega), ← hx] at q1
        rw [Em.room_less hc (by omega), show ((Em.size b k - 1 : Nat) : Int) = x - 1 by omega] at q2
        refine .inr (.inr ?_)
        by_cases hk : k = 1
        · subst hk
          exact .inr ⟨rfl, by omega, hle, rfl, Lib.hid q1, Lib.hid q2⟩
        · rw [noneE_pos (show k - 1 ≠ 0 by omega), show ((k - 1 : Nat) : Int) = (k : Int) - 1 by omega] at q2
          exact .inl ⟨rfl, by omega, hle, by omega, by omega, Lib.hid q1, Lib.hid q2⟩
      · exact .inr (.inl ⟨rfl, by simpa using hle⟩)
  · rcases hT with h | ⟨rfl, hr, h1, h2, hm, hp⟩
    · exact .inl h
    · obtain ⟨a, b, rfl, rfl, _, _, hb1, hb2⟩ := Em.right_nat hr
      obtain ⟨k, rfl⟩ : ∃ k : Nat, s = (k : Int) := ⟨s.toNat, by omega⟩
      rw [Int.toNat_natCast, Int.toNat_natCast] at hm hp
      have hc : 0 < b := by omega
      obtain ⟨f1, f2⟩ := Em.room_fits (c := b) (s := k) hc
      have f3 := f1 hp
      obtain ⟨r, hrr⟩ : ∃ r, r = Em.room b k := ⟨_, rfl⟩
      rw [← hrr] at hm hp f2 f3
      have hrb : r + 2 ≤ Em.size b r := by
        unfold Em.size
        rw [Em.parts_13]
        have := Nat.mul_le_mul_left r (show 1 ≤ b from hb1)
        omega
      subst hm
      exact .inr ⟨rfl, by omega, by omega, _, _, by omega, by omega, Lib.hid fun w1 => size_ok a b r w1 hr (by omega) (by omega), Lib.hid fun w1 => size_ok a b (r + 1) w1 hr (by omega) (by omega)⟩
end Geo
end Go.Proofs.Ytkjlcjiegoillaa
