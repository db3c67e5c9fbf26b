/- The walk of the statement LayoutApart. (Made by wip/tools/gen_layoutapart.py.) -/
import Derived.Test.YtilfipebmgmmeaaLayoutAlive
namespace Go.Proofs.Ytilfipebmgmmeaa
open Go.RowKit
set_option maxRecDepth 100000
set_option linter.unusedVariables false

/-- Two numbers in a box. -/
structure Dx (W : World) (k : Nat) (x y : Int) : Prop where
  lt : k < W.heap.size
  c0 : W.cell? ⟨k, 0, none⟩ = some (.int .i64 x)
  c1 : W.cell? ⟨k, 1, none⟩ = some (.int .i64 y)
theorem Dx.next {W W' : World} {k : Nat} {x y : Int} (h : Dx W k x y) (hb : Below W.heap.size W W') : Dx W' k x y :=
  ⟨Nat.lt_of_lt_of_le h.lt hb.size, (hb.cell (p := ⟨k, 0, none⟩) h.lt).trans h.c0, (hb.cell (p := ⟨k, 1, none⟩) h.lt).trans h.c1⟩
theorem dx_alloc (w : World) (x y : Int) (ty : TypeId) : Dx (w.alloc (.cells #[.int .i64 x, .int .i64 y] ty)) w.heap.size x y := by
  have h := heap_alloc_new w (.cells #[.int .i64 x, .int .i64 y] ty)
  exact ⟨(Array.getElem?_eq_some_iff.1 h).1, by rw [cell_of_row _ _ _ _ _ _ h]; rfl, by rw [cell_of_row _ _ _ _ _ _ h]; rfl⟩
theorem below_new (w : World) (o : Obj) : Below w.heap.size w (w.alloc o) := (Below.refl _ w).alloc (Nat.le_refl _) _
theorem apart_made (w : World) (a n g p m i k : Int) (W0 : World) (h : ((w.alloc (.cells #[.int .i64 a, .int .i64 n, .int .i64 g] 23)).alloc (.cells #[.int .i64 p, .int .i64 m] 37)).alloc (.cells #[.int .i64 i, .int .i64 k] 41) = W0) :
    Below w.heap.size w W0 ∧ Ux W0 w.heap.size a n g ∧ Dx W0 (w.heap.size + 1) p m ∧ Dx W0 (w.heap.size + 2) i k := by
  subst h
  obtain ⟨W1, hW1⟩ : ∃ W1, w.alloc (.cells #[.int .i64 a, .int .i64 n, .int .i64 g] 23) = W1 := ⟨_, rfl⟩
  have x1 := ux_alloc w a n g 23
  have b1 := below_new w (.cells #[.int .i64 a, .int .i64 n, .int .i64 g] 23)
  have s1 : W1.heap.size = w.heap.size + 1 := by rw [← hW1]; simp
  rw [hW1] at x1 b1 ⊢
  have b2 := below_new W1 (.cells #[.int .i64 p, .int .i64 m] 37)
  have x2 := dx_alloc W1 p m 37
  have s2 : (W1.alloc (.cells #[.int .i64 p, .int .i64 m] 37)).heap.size = w.heap.size + 2 := by simp [s1]
  rw [s1] at x2
  have b3 := below_new (W1.alloc (.cells #[.int .i64 p, .int .i64 m] 37)) (.cells #[.int .i64 i, .int .i64 k] 41)
  have x3 := dx_alloc (W1.alloc (.cells #[.int .i64 p, .int .i64 m] 37)) i k 41
  rw [s2] at x3
  have b12 := b1.trans (b2.mono b1.size)
  exact ⟨b12.trans (b3.mono b12.size), (x1.next b2).next b3, x2.next b3, x3⟩

/-- Have two extents no sector in common? -/
theorem apart_yes (x l y z : Int) (w : World) (h : x + l ≤ y ∨ y + z ≤ x) (h1 : 0 ≤ x + l) (h2 : x + l ≤ 1048576) (h3 : 0 ≤ y + z) (h4 : y + z ≤ 1048576) :
    Calls Try.prog 15 #[.agg #[.int .i64 x, .int .i64 l], .agg #[.int .i64 y, .int .i64 z]] w fun e w' => e = .returned (.bool true) ∧ Below w.heap.size w w' := by
  obtain ⟨W0, hW0⟩ : ∃ W0, (w.alloc (.cells #[.int .i64 x, .int .i64 l] 37)).alloc (.cells #[.int .i64 y, .int .i64 z] 37) = W0 := ⟨_, rfl⟩
  obtain ⟨hB, a0, a1, b0, b1⟩ := within_made w x l y z W0 hW0
  have HB := Lib.hid hB
  have e1 : IntKind.i64.wrap (x + l) = x + l := IntWalk.i64_in _ (by omega)
  have e2 : IntKind.i64.wrap (y + z) = y + z := IntWalk.i64_in _ (by omega)
  by_cases c : x + l ≤ y
  · have d1 : decide (x + l ≤ y) = true := by simpa using c
    clear h c h1 h2 h3 h4 hB
    go_enter Try.func15, Try.ntmps15
    go_wp2_with fail
    clear hW0
    go_wp2_with fail
    go_ret
    exact ⟨rfl, HB.out⟩
  · have d1 : decide (x + l ≤ y) = false := by simpa using c
    have d2 : decide (y + z ≤ x) = true := by simpa using h.resolve_left c
    clear h c h1 h2 h3 h4 hB
    go_enter Try.func15, Try.ntmps15
    go_wp2_with fail
    clear hW0
    go_wp2_with fail
    go_ret
    exact ⟨rfl, HB.out⟩
theorem apart_wrong (a n g p m i k : Int) (w : World) (h : Um.okU a n g = false) :
    Calls Try.prog 4 #[.agg #[.int .i64 a, .int .i64 n, .int .i64 g], .agg #[.int .i64 p, .int .i64 m], .agg #[.int .i64 i, .int .i64 k]] w fun e w' => e = .returned (.bool true) ∧ Below w.heap.size w w' := by
  have C1 := Lib.hid (fun w1 => of_no a n g w1 h)
  have AL := Lib.hid yalive_any
  obtain ⟨W0, hW0⟩ : ∃ W0, ((w.alloc (.cells #[.int .i64 a, .int .i64 n, .int .i64 g] 23)).alloc (.cells #[.int .i64 p, .int .i64 m] 37)).alloc (.cells #[.int .i64 i, .int .i64 k] 41) = W0 := ⟨_, rfl⟩
  obtain ⟨hB, hx, hp, hi⟩ := apart_made w a n g p m i k W0 hW0
  have HB := Lib.hid hB
  have HX := Lib.hid hx
  have HP := Lib.hid hp
  obtain ⟨_, a0, a1, a2⟩ := hx
  obtain ⟨_, i0, i1⟩ := hi
  clear hB hp h
  go_enter Try.func4, Try.ntmps4
  go_wp2_with fail
  clear hW0
  refine (C1.out _).mono ?_
  rintro e w1 ⟨rfl, hb⟩
  have hn := below_new w1 (.cells #[.int .i64 0, .int .i64 0, .int .i64 0] 25)
  have hb1 := HB.out.trans (hb.mono HB.out.size)
  replace HB := Lib.hid (hb1.trans (hn.mono hb1.size))
  clear hb hb1 hn a0 a1 a2 i0 i1
  go_wp2_with fail
  refine (AL.out _).mono ?_
  rintro e w2 ⟨rfl, hb⟩
  replace HB := Lib.hid (HB.out.trans (hb.mono HB.out.size))
  clear hb
  go_wp2_with fail
  go_ret
  exact ⟨rfl, HB.out⟩
theorem apart_great (a n g p m i k : Int) (w : World) (h : Um.okU a n g = true) (hm : 4000 < m) :
    Calls Try.prog 4 #[.agg #[.int .i64 a, .int .i64 n, .int .i64 g], .agg #[.int .i64 p, .int .i64 m], .agg #[.int .i64 i, .int .i64 k]] w fun e w' => e = .returned (.bool true) ∧ Below w.heap.size w w' := by
  have C1 := Lib.hid (fun w1 => of_ok a n g w1 h)
  have AL := Lib.hid yalive_any
  have d1 : decide (4000 < m) = true := by simpa using hm
  obtain ⟨W0, hW0⟩ : ∃ W0, ((w.alloc (.cells #[.int .i64 a, .int .i64 n, .int .i64 g] 23)).alloc (.cells #[.int .i64 p, .int .i64 m] 37)).alloc (.cells #[.int .i64 i, .int .i64 k] 41) = W0 := ⟨_, rfl⟩
  obtain ⟨hB, hx, hp, hi⟩ := apart_made w a n g p m i k W0 hW0
  have HB := Lib.hid hB
  have HX := Lib.hid hx
  have HP := Lib.hid hp
  obtain ⟨_, a0, a1, a2⟩ := hx
  obtain ⟨_, i0, i1⟩ := hi
  clear hB hp h hm
  go_enter Try.func4, Try.ntmps4
  go_wp2_with fail
  clear hW0
  refine (C1.out _).mono ?_
  rintro e w1 ⟨rfl, hb⟩
  have hn := below_new w1 (.cells #[.int .i64 a, .int .i64 n, .int .i64 g] 25)
  have hb1 := HB.out.trans (hb.mono HB.out.size)
  replace HB := Lib.hid (hb1.trans (hn.mono hb1.size))
  replace HX := Lib.hid ((HX.out.next hb).next hn)
  replace HP := Lib.hid ((HP.out.next hb).next hn)
  have HL := Lib.hid (ux_alloc w1 a n g 25)
  clear hb hb1 hn a0 a1 a2 i0 i1
  obtain ⟨_, p0, p1⟩ := HP.out
  go_wp2_with fail
  refine (AL.out _).mono ?_
  rintro e w2 ⟨rfl, hb⟩
  replace HB := Lib.hid (HB.out.trans (hb.mono HB.out.size))
  clear hb p0 p1
  go_wp2_with fail
  go_ret
  exact ⟨rfl, HB.out⟩
set_option maxHeartbeats 4000000 in
theorem apart_walk (a n g p m i k P F A Z G B Y H : Int) (w : World) (h : Um.okU a n g = true) (hm : m ≤ 4000)
    (CP : Hid (∀ w1 : World, Calls Try.prog 13 #[.agg #[.int .i64 a, .int .i64 n, .int .i64 g], .agg #[.int .i64 p, .int .i64 m], .int .i64 i] w1 fun x w' => x = .returned (.tuple #[.int .i64 P, .int .i64 F]) ∧ Below w1.heap.size w1 w'))
    (CA : Hid (∀ w1 : World, Calls Try.prog 14 #[.agg #[.int .i64 a, .int .i64 n, .int .i64 g], .agg #[.int .i64 p, .int .i64 m], .int .i64 i] w1 fun x w' => x = .returned (.tuple #[.agg #[.int .i64 A, .int .i64 Z], .int .i64 G]) ∧ Below w1.heap.size w1 w'))
    (CB : Hid (∀ w1 : World, Calls Try.prog 14 #[.agg #[.int .i64 a, .int .i64 n, .int .i64 g], .agg #[.int .i64 p, .int .i64 m], .int .i64 k] w1 fun x w' => x = .returned (.tuple #[.agg #[.int .i64 B, .int .i64 Y], .int .i64 H]) ∧ Below w1.heap.size w1 w'))
    (hF : F = 0 → p < P ∧ P < p + m ∧ 0 ≤ p ∧ p + m ≤ 1048576) (hG : G = 0 → p < A ∧ A + Z ≤ p + m ∧ 0 ≤ Z ∧ 0 ≤ p ∧ p + m ≤ 1048576)
    (D1 : F = 0 → G = 0 → Hid (∀ w1 : World, Calls Try.prog 15 #[.agg #[.int .i64 P, .int .i64 1], .agg #[.int .i64 A, .int .i64 Z]] w1 fun e w' => e = .returned (.bool true) ∧ Below w1.heap.size w1 w'))
    (D2 : F = 0 → H = 0 → Hid (∀ w1 : World, Calls Try.prog 15 #[.agg #[.int .i64 P, .int .i64 1], .agg #[.int .i64 B, .int .i64 Y]] w1 fun e w' => e = .returned (.bool true) ∧ Below w1.heap.size w1 w'))
    (D3 : G = 0 → H = 0 → i ≠ k → Hid (∀ w1 : World, Calls Try.prog 15 #[.agg #[.int .i64 A, .int .i64 Z], .agg #[.int .i64 B, .int .i64 Y]] w1 fun e w' => e = .returned (.bool true) ∧ Below w1.heap.size w1 w')) :
    Calls Try.prog 4 #[.agg #[.int .i64 a, .int .i64 n, .int .i64 g], .agg #[.int .i64 p, .int .i64 m], .agg #[.int .i64 i, .int .i64 k]] w fun e w' => e = .returned (.bool true) ∧ Below w.heap.size w w' := by
  have C1 := Lib.hid (fun w1 => of_ok a n g w1 h)
  have C2 := Lib.hid (fun w1 => lslot_ok a n g 0 w1 h (by decide) (by decide))
  have C3 := Lib.hid (fun w1 => lslot_ok a n g 15 w1 h (by decide) (by decide))
  have C4 := Lib.hid (fun w1 => lorigin_ok a n g w1 h)
  have C5 := Lib.hid (fun w1 => lstores_ok a n g w1 h)
  have AL := Lib.hid yalive_any
  obtain ⟨k1, k2, k3, k4, k5, k6⟩ := Um.okU_small h
  obtain ⟨s, hs⟩ : ∃ s, s = 17 + n := ⟨_, rfl⟩
  obtain ⟨l, hl⟩ : ∃ l, l = a - (17 + n) := ⟨_, rfl⟩
  rw [← hl] at C5
  rw [← hs] at C5
  have e1 : IntKind.i64.wrap (17 + n) = 17 + n := IntWalk.i64_in _ (by omega)
  have e2 : IntKind.i64.wrap (s + l) = s + l := IntWalk.i64_in _ (by omega)
  have t1 : (17 + n != s) = false := by simp; omega
  have t2 : (s + l != a) = false := by simp; omega
  have t3 : decide (l < 0) = false := by simp; omega
  have d1 : decide (4000 < m) = false := by simpa using hm
  have HF := Lib.hid hF
  have HG := Lib.hid hG
  have HD1 := Lib.hid D1
  have HD2 := Lib.hid D2
  have HD3 := Lib.hid D3
  obtain ⟨W0, hW0⟩ : ∃ W0, ((w.alloc (.cells #[.int .i64 a, .int .i64 n, .int .i64 g] 23)).alloc (.cells #[.int .i64 p, .int .i64 m] 37)).alloc (.cells #[.int .i64 i, .int .i64 k] 41) = W0 := ⟨_, rfl⟩
  obtain ⟨hB, hx, hp, hi⟩ := apart_made w a n g p m i k W0 hW0
  have HB := Lib.hid hB
  have HX := Lib.hid hx
  have HP := Lib.hid hp
  obtain ⟨_, a0, a1, a2⟩ := hx
  obtain ⟨_, i0, i1⟩ := hi
  clear hB hp h hm hF hG D1 D2 D3 k1 k2 k3 k4 k5 k6 hs hl
  go_enter Try.func4, Try.ntmps4
  go_wp2_with fail
  clear hW0
  refine (C1.out _).mono ?_
  rintro e w1 ⟨rfl, hb⟩
  have hn := below_new w1 (.cells #[.int .i64 a, .int .i64 n, .int .i64 g] 25)
  have hb1 := HB.out.trans (hb.mono HB.out.size)
  replace HB := Lib.hid (hb1.trans (hn.mono hb1.size))
  replace HX := Lib.hid ((HX.out.next hb).next hn)
  replace HP := Lib.hid ((HP.out.next hb).next hn)
  have HL := Lib.hid (ux_alloc w1 a n g 25)
  clear hb hb1 hn a0 a1 a2 i0 i1
  obtain ⟨_, p0, p1⟩ := HP.out
  obtain ⟨_, l0, l1, l2⟩ := HL.out
  go_wp2_with fail
  refine (C2.out _).mono ?_
  rintro e w2 ⟨rfl, hb⟩
  replace HB := Lib.hid (HB.out.trans (hb.mono HB.out.size))
  replace HX := Lib.hid (HX.out.next hb)
  replace HP := Lib.hid (HP.out.next hb)
  replace HL := Lib.hid (HL.out.next hb)
  clear hb l0 l1 l2 p0 p1
  obtain ⟨_, l0, l1, l2⟩ := HL.out
  go_wp2_with fail
  refine (C3.out _).mono ?_
  rintro e w3 ⟨rfl, hb⟩
  replace HB := Lib.hid (HB.out.trans (hb.mono HB.out.size))
  replace HX := Lib.hid (HX.out.next hb)
  replace HP := Lib.hid (HP.out.next hb)
  replace HL := Lib.hid (HL.out.next hb)
  clear hb l0 l1 l2
  obtain ⟨_, l0, l1, l2⟩ := HL.out
  go_wp2_with fail
  refine (C4.out _).mono ?_
  rintro e w4 ⟨rfl, hb⟩
  have hn := below_new w4 (.cells #[.int .i64 (17), .int .i64 (n)] 37)
  have hb1 := HB.out.trans (hb.mono HB.out.size)
  replace HB := Lib.hid (hb1.trans (hn.mono hb1.size))
  replace HX := Lib.hid ((HX.out.next hb).next hn)
  replace HP := Lib.hid ((HP.out.next hb).next hn)
  replace HL := Lib.hid ((HL.out.next hb).next hn)
  have HO := Lib.hid (dx_alloc w4 17 n 37)
  clear hb hb1 hn l0 l1 l2
  obtain ⟨_, l0, l1, l2⟩ := HL.out
  go_wp2_with fail
  refine (C5.out _).mono ?_
  rintro e w5 ⟨rfl, hb⟩
  have hn := below_new w5 (.cells #[.int .i64 (s), .int .i64 (l)] 37)
  have hb1 := HB.out.trans (hb.mono HB.out.size)
  replace HB := Lib.hid (hb1.trans (hn.mono hb1.size))
  replace HX := Lib.hid ((HX.out.next hb).next hn)
  replace HP := Lib.hid ((HP.out.next hb).next hn)
  replace HL := Lib.hid ((HL.out.next hb).next hn)
  replace HO := Lib.hid ((HO.out.next hb).next hn)
  have HY := Lib.hid (dx_alloc w5 s l 37)
  clear hb hb1 hn l0 l1 l2
  obtain ⟨_, l0, l1, l2⟩ := HL.out
  obtain ⟨_, a0, a1, a2⟩ := HX.out
  obtain ⟨_, p0, p1⟩ := HP.out
  obtain ⟨_, o0, o1⟩ := HO.out
  obtain ⟨_, y0, y1⟩ := HY.out
  go_wp2_with fail
  clear o0 o1 y0 y1 a0 a1 a2 HO HY HX t1 t2 t3 e1 e2
  refine (CP.out _).mono ?_
  rintro e w6 ⟨rfl, hb⟩
  replace HB := Lib.hid (HB.out.trans (hb.mono HB.out.size))
  replace HP := Lib.hid (HP.out.next hb)
  replace HL := Lib.hid (HL.out.next hb)
  clear hb l0 l1 l2 p0 p1
  obtain ⟨_, l0, l1, l2⟩ := HL.out
  obtain ⟨_, p0, p1⟩ := HP.out
  go_wp2_with fail
  refine (CA.out _).mono ?_
  rintro e w7 ⟨rfl, hb⟩
  have hn := below_new w7 (.cells #[.int .i64 (A), .int .i64 (Z)] 37)
  have hb1 := HB.out.trans (hb.mono HB.out.size)
  replace HB := Lib.hid (hb1.trans (hn.mono hb1.size))
  replace HP := Lib.hid ((HP.out.next hb).next hn)
  replace HL := Lib.hid ((HL.out.next hb).next hn)
  have HA := Lib.hid (dx_alloc w7 A Z 37)
  clear hb hb1 hn l0 l1 l2 p0 p1
  obtain ⟨_, l0, l1, l2⟩ := HL.out
  obtain ⟨_, p0, p1⟩ := HP.out
  go_wp2_with fail
  refine (CB.out _).mono ?_
  rintro e w8 ⟨rfl, hb⟩
  have hn := below_new w8 (.cells #[.int .i64 (B), .int .i64 (Y)] 37)
  have hn2 := below_new (w8.alloc (.cells #[.int .i64 (B), .int .i64 (Y)] 37)) (.cells #[.int .i64 (P), .int .i64 (1)] 37)
  have hb1 := HB.out.trans (hb.mono HB.out.size)
  have hb2 := hb1.trans (hn.mono hb1.size)
  replace HB := Lib.hid (hb2.trans (hn2.mono hb2.size))
  replace HP := Lib.hid (((HP.out.next hb).next hn).next hn2)
  replace HA := Lib.hid (((HA.out.next hb).next hn).next hn2)
  have HK := Lib.hid ((dx_alloc w8 B Y 37).next hn2)
  have hq := dx_alloc (w8.alloc (.cells #[.int .i64 (B), .int .i64 (Y)] 37)) P 1 37
  rw [show (w8.alloc (.cells #[.int .i64 (B), .int .i64 (Y)] 37)).heap.size = w8.heap.size + 1 by simp] at hq
  have HQ := Lib.hid hq
  clear hb hb1 hb2 hn hn2 hq l0 l1 l2 p0 p1 HL
  by_cases cF : F = 0
  · by_cases cG : G = 0
    · by_cases cH : H = 0
      · by_cases cE : i = k
        · obtain ⟨f1, f2, f3, f4⟩ := HF.out cF
          have x1 : IntKind.i64.wrap (p + m) = p + m := IntWalk.i64_in _ (by omega)
          have x2 : decide (P ≤ p) = false := by simp; omega
          have x3 : decide (p + m ≤ P) = false := by simp; omega
          subst cF
          clear f1 f2 f3 f4
          have DD1 := HD1.out rfl cG
          have DD2 := HD2.out rfl cH
          obtain ⟨g1, g2, g3, g4, g5⟩ := HG.out cG
          have y1 : IntKind.i64.wrap (p + m) = p + m := IntWalk.i64_in _ (by omega)
          have y2 : IntKind.i64.wrap (A + Z) = A + Z := IntWalk.i64_in _ (by omega)
          have y3 : decide (A ≤ p) = false := by simp; omega
          have y4 : decide (p + m < A + Z) = false := by simp; omega
          subst cG
          clear g1 g2 g3 g4 g5
          subst cH
          have z5 : (i == k) = true := by simpa using cE
          clear HF HG HD1 HD2 HD3 cE
          obtain ⟨_, p0, p1⟩ := HP.out
          obtain ⟨_, u0, u1⟩ := HA.out
          obtain ⟨_, v0, v1⟩ := HK.out
          obtain ⟨_, q0, q1⟩ := HQ.out
          go_wp2_with fail
          refine (DD1.out _).mono ?_
          rintro e w9 ⟨rfl, hb⟩
          replace HB := Lib.hid (HB.out.trans (hb.mono HB.out.size))
          replace HP := Lib.hid (HP.out.next hb)
          replace HA := Lib.hid (HA.out.next hb)
          replace HK := Lib.hid (HK.out.next hb)
          replace HQ := Lib.hid (HQ.out.next hb)
          clear hb p0 p1 u0 u1 v0 v1 q0 q1
          obtain ⟨_, p0, p1⟩ := HP.out
          obtain ⟨_, u0, u1⟩ := HA.out
          obtain ⟨_, v0, v1⟩ := HK.out
          obtain ⟨_, q0, q1⟩ := HQ.out
          go_wp2_with fail
          refine (DD2.out _).mono ?_
          rintro e w10 ⟨rfl, hb⟩
          replace HB := Lib.hid (HB.out.trans (hb.mono HB.out.size))
          replace HP := Lib.hid (HP.out.next hb)
          replace HA := Lib.hid (HA.out.next hb)
          replace HK := Lib.hid (HK.out.next hb)
          replace HQ := Lib.hid (HQ.out.next hb)
          clear hb p0 p1 u0 u1 v0 v1 q0 q1
          obtain ⟨_, p0, p1⟩ := HP.out
          obtain ⟨_, u0, u1⟩ := HA.out
          obtain ⟨_, v0, v1⟩ := HK.out
          obtain ⟨_, q0, q1⟩ := HQ.out
          go_wp2_with fail
          refine (AL.out _).mono ?_
          rintro e w11 ⟨rfl, hb⟩
          replace HB := Lib.hid (HB.out.trans (hb.mono HB.out.size))
          replace HP := Lib.hid (HP.out.next hb)
          replace HA := Lib.hid (HA.out.next hb)
          replace HK := Lib.hid (HK.out.next hb)
          replace HQ := Lib.hid (HQ.out.next hb)
          clear hb p0 p1 u0 u1 v0 v1 q0 q1
          obtain ⟨_, p0, p1⟩ := HP.out
          obtain ⟨_, u0, u1⟩ := HA.out
          obtain ⟨_, v0, v1⟩ := HK.out
          obtain ⟨_, q0, q1⟩ := HQ.out
          go_wp2_with fail
          go_ret
          exact ⟨rfl, HB.out⟩
        · obtain ⟨f1, f2, f3, f4⟩ := HF.out cF
          have x1 : IntKind.i64.wrap (p + m) = p + m := IntWalk.i64_in _ (by omega)
          have x2 : decide (P ≤ p) = false := by simp; omega
          have x3 : decide (p + m ≤ P) = false := by simp; omega
          subst cF
          clear f1 f2 f3 f4
          have DD1 := HD1.out rfl cG
          have DD2 := HD2.out rfl cH
          have DD3 := HD3.out cG cH cE
          obtain ⟨g1, g2, g3, g4, g5⟩ := HG.out cG
          have y1 : IntKind.i64.wrap (p + m) = p + m := IntWalk.i64_in _ (by omega)
          have y2 : IntKind.i64.wrap (A + Z) = A + Z := IntWalk.i64_in _ (by omega)
          have y3 : decide (A ≤ p) = false := by simp; omega
          have y4 : decide (p + m < A + Z) = false := by simp; omega
          subst cG
          clear g1 g2 g3 g4 g5
          subst cH
          have z5 : (i == k) = false := by simpa using cE
          clear HF HG HD1 HD2 HD3 cE
          obtain ⟨_, p0, p1⟩ := HP.out
          obtain ⟨_, u0, u1⟩ := HA.out
          obtain ⟨_, v0, v1⟩ := HK.out
          obtain ⟨_, q0, q1⟩ := HQ.out
          go_wp2_with fail
          refine (DD1.out _).mono ?_
          rintro e w9 ⟨rfl, hb⟩
          replace HB := Lib.hid (HB.out.trans (hb.mono HB.out.size))
          replace HP := Lib.hid (HP.out.next hb)
          replace HA := Lib.hid (HA.out.next hb)
          replace HK := Lib.hid (HK.out.next hb)
          replace HQ := Lib.hid (HQ.out.next hb)
          clear hb p0 p1 u0 u1 v0 v1 q0 q1
          obtain ⟨_, p0, p1⟩ := HP.out
          obtain ⟨_, u0, u1⟩ := HA.out
          obtain ⟨_, v0, v1⟩ := HK.out
          obtain ⟨_, q0, q1⟩ := HQ.out
          go_wp2_with fail
          refine (DD2.out _).mono ?_
          rintro e w10 ⟨rfl, hb⟩
          replace HB := Lib.hid (HB.out.trans (hb.mono HB.out.size))
          replace HP := Lib.hid (HP.out.next hb)
          replace HA := Lib.hid (HA.out.next hb)
          replace HK := Lib.hid (HK.out.next hb)
          replace HQ := Lib.hid (HQ.out.next hb)
          clear hb p0 p1 u0 u1 v0 v1 q0 q1
          obtain ⟨_, p0, p1⟩ := HP.out
          obtain ⟨_, u0, u1⟩ := HA.out
          obtain ⟨_, v0, v1⟩ := HK.out
          obtain ⟨_, q0, q1⟩ := HQ.out
          go_wp2_with fail
          refine (AL.out _).mono ?_
          rintro e w11 ⟨rfl, hb⟩
          replace HB := Lib.hid (HB.out.trans (hb.mono HB.out.size))
          replace HP := Lib.hid (HP.out.next hb)
          replace HA := Lib.hid (HA.out.next hb)
          replace HK := Lib.hid (HK.out.next hb)
          replace HQ := Lib.hid (HQ.out.next hb)
          clear hb p0 p1 u0 u1 v0 v1 q0 q1
          obtain ⟨_, p0, p1⟩ := HP.out
          obtain ⟨_, u0, u1⟩ := HA.out
          obtain ⟨_, v0, v1⟩ := HK.out
          obtain ⟨_, q0, q1⟩ := HQ.out
          go_wp2_with fail
          refine (DD3.out _).mono ?_
          rintro e w12 ⟨rfl, hb⟩
          replace HB := Lib.hid (HB.out.trans (hb.mono HB.out.size))
          replace HP := Lib.hid (HP.out.next hb)
          replace HA := Lib.hid (HA.out.next hb)
          replace HK := Lib.hid (HK.out.next hb)
          replace HQ := Lib.hid (HQ.out.next hb)
          clear hb p0 p1 u0 u1 v0 v1 q0 q1
          go_wp2_with fail
          go_ret
          exact ⟨rfl, HB.out⟩
      · obtain ⟨f1, f2, f3, f4⟩ := HF.out cF
        have x1 : IntKind.i64.wrap (p + m) = p + m := IntWalk.i64_in _ (by omega)
        have x2 : decide (P ≤ p) = false := by simp; omega
        have x3 : decide (p + m ≤ P) = false := by simp; omega
        subst cF
        clear f1 f2 f3 f4
        have DD1 := HD1.out rfl cG
        obtain ⟨g1, g2, g3, g4, g5⟩ := HG.out cG
        have y1 : IntKind.i64.wrap (p + m) = p + m := IntWalk.i64_in _ (by omega)
        have y2 : IntKind.i64.wrap (A + Z) = A + Z := IntWalk.i64_in _ (by omega)
        have y3 : decide (A ≤ p) = false := by simp; omega
        have y4 : decide (p + m < A + Z) = false := by simp; omega
        subst cG
        clear g1 g2 g3 g4 g5
        have z3 : (H == 0) = false := by simpa using cH
        have z4 : (H != 0) = true := by simpa using cH
        clear HF HG HD1 HD2 HD3 cH
        obtain ⟨_, p0, p1⟩ := HP.out
        obtain ⟨_, u0, u1⟩ := HA.out
        obtain ⟨_, v0, v1⟩ := HK.out
        obtain ⟨_, q0, q1⟩ := HQ.out
        go_wp2_with fail
        refine (DD1.out _).mono ?_
        rintro e w9 ⟨rfl, hb⟩
        replace HB := Lib.hid (HB.out.trans (hb.mono HB.out.size))
        replace HP := Lib.hid (HP.out.next hb)
        replace HA := Lib.hid (HA.out.next hb)
        replace HK := Lib.hid (HK.out.next hb)
        replace HQ := Lib.hid (HQ.out.next hb)
        clear hb p0 p1 u0 u1 v0 v1 q0 q1
        obtain ⟨_, p0, p1⟩ := HP.out
        obtain ⟨_, u0, u1⟩ := HA.out
        obtain ⟨_, v0, v1⟩ := HK.out
        obtain ⟨_, q0, q1⟩ := HQ.out
        go_wp2_with fail
        refine (AL.out _).mono ?_
        rintro e w11 ⟨rfl, hb⟩
        replace HB := Lib.hid (HB.out.trans (hb.mono HB.out.size))
        replace HP := Lib.hid (HP.out.next hb)
        replace HA := Lib.hid (HA.out.next hb)
        replace HK := Lib.hid (HK.out.next hb)
        replace HQ := Lib.hid (HQ.out.next hb)
        clear hb p0 p1 u0 u1 v0 v1 q0 q1
        obtain ⟨_, p0, p1⟩ := HP.out
        obtain ⟨_, u0, u1⟩ := HA.out
        obtain ⟨_, v0, v1⟩ := HK.out
        obtain ⟨_, q0, q1⟩ := HQ.out
        go_wp2_with fail
        go_ret
        exact ⟨rfl, HB.out⟩
    · by_cases cH : H = 0
      · obtain ⟨f1, f2, f3, f4⟩ := HF.out cF
        have x1 : IntKind.i64.wrap (p + m) = p + m := IntWalk.i64_in _ (by omega)
        have x2 : decide (P ≤ p) = false := by simp; omega
        have x3 : decide (p + m ≤ P) = false := by simp; omega
        subst cF
        clear f1 f2 f3 f4
        have DD2 := HD2.out rfl cH
        have z1 : (G == 0) = false := by simpa using cG
        have z2 : (G != 0) = true := by simpa using cG
        subst cH
        clear HF HG HD1 HD2 HD3 cG
        obtain ⟨_, p0, p1⟩ := HP.out
        obtain ⟨_, u0, u1⟩ := HA.out
        obtain ⟨_, v0, v1⟩ := HK.out
        obtain ⟨_, q0, q1⟩ := HQ.out
        go_wp2_with fail
        refine (DD2.out _).mono ?_
        rintro e w10 ⟨rfl, hb⟩
        replace HB := Lib.hid (HB.out.trans (hb.mono HB.out.size))
        replace HP := Lib.hid (HP.out.next hb)
        replace HA := Lib.hid (HA.out.next hb)
        replace HK := Lib.hid (HK.out.next hb)
        replace HQ := Lib.hid (HQ.out.next hb)
        clear hb p0 p1 u0 u1 v0 v1 q0 q1
        obtain ⟨_, p0, p1⟩ := HP.out
        obtain ⟨_, u0, u1⟩ := HA.out
        obtain ⟨_, v0, v1⟩ := HK.out
        obtain ⟨_, q0, q1⟩ := HQ.out
        go_wp2_with fail
        refine (AL.out _).mono ?_
        rintro e w11 ⟨rfl, hb⟩
        replace HB := Lib.hid (HB.out.trans (hb.mono HB.out.size))
        replace HP := Lib.hid (HP.out.next hb)
        replace HA := Lib.hid (HA.out.next hb)
        replace HK := Lib.hid (HK.out.next hb)
        replace HQ := Lib.hid (HQ.out.next hb)
        clear hb p0 p1 u0 u1 v0 v1 q0 q1
        obtain ⟨_, p0, p1⟩ := HP.out
        obtain ⟨_, u0, u1⟩ := HA.out
        obtain ⟨_, v0, v1⟩ := HK.out
        obtain ⟨_, q0, q1⟩ := HQ.out
        go_wp2_with fail
        go_ret
        exact ⟨rfl, HB.out⟩
      · obtain ⟨f1, f2, f3, f4⟩ := HF.out cF
        have x1 : IntKind.i64.wrap (p + m) = p + m := IntWalk.i64_in _ (by omega)
        have x2 : decide (P ≤ p) = false := by simp; omega
        have x3 : decide (p + m ≤ P) = false := by simp; omega
        subst cF
        clear f1 f2 f3 f4
        have z1 : (G == 0) = false := by simpa using cG
        have z2 : (G != 0) = true := by simpa using cG
        have z3 : (H == 0) = false := by simpa using cH
        have z4 : (H != 0) = true := by simpa using cH
        clear HF HG HD1 HD2 HD3 cG cH
        obtain ⟨_, p0, p1⟩ := HP.out
        obtain ⟨_, u0, u1⟩ := HA.out
        obtain ⟨_, v0, v1⟩ := HK.out
        obtain ⟨_, q0, q1⟩ := HQ.out
        go_wp2_with fail
        refine (AL.out _).mono ?_
        rintro e w11 ⟨rfl, hb⟩
        replace HB := Lib.hid (HB.out.trans (hb.mono HB.out.size))
        replace HP := Lib.hid (HP.out.next hb)
        replace HA := Lib.hid (HA.out.next hb)
        replace HK := Lib.hid (HK.out.next hb)
        replace HQ := Lib.hid (HQ.out.next hb)
        clear hb p0 p1 u0 u1 v0 v1 q0 q1
        obtain ⟨_, p0, p1⟩ := HP.out
        obtain ⟨_, u0, u1⟩ := HA.out
        obtain ⟨_, v0, v1⟩ := HK.out
        obtain ⟨_, q0, q1⟩ := HQ.out
        go_wp2_with fail
        go_ret
        exact ⟨rfl, HB.out⟩
  · by_cases cG : G = 0
    · by_cases cH : H = 0
      · by_cases cE : i = k
        · have x0 : (F == 0) = false := by simpa using cF
          obtain ⟨g1, g2, g3, g4, g5⟩ := HG.out cG
          have y1 : IntKind.i64.wrap (p + m) = p + m := IntWalk.i64_in _ (by omega)
          have y2 : IntKind.i64.wrap (A + Z) = A + Z := IntWalk.i64_in _ (by omega)
          have y3 : decide (A ≤ p) = false := by simp; omega
          have y4 : decide (p + m < A + Z) = false := by simp; omega
          subst cG
          clear g1 g2 g3 g4 g5
          subst cH
          have z5 : (i == k) = true := by simpa using cE
          clear HF HG HD1 HD2 HD3 cF cE
          obtain ⟨_, p0, p1⟩ := HP.out
          obtain ⟨_, u0, u1⟩ := HA.out
          obtain ⟨_, v0, v1⟩ := HK.out
          obtain ⟨_, q0, q1⟩ := HQ.out
          go_wp2_with fail
          refine (AL.out _).mono ?_
          rintro e w11 ⟨rfl, hb⟩
          replace HB := Lib.hid (HB.out.trans (hb.mono HB.out.size))
          replace HP := Lib.hid (HP.out.next hb)
          replace HA := Lib.hid (HA.out.next hb)
          replace HK := Lib.hid (HK.out.next hb)
          replace HQ := Lib.hid (HQ.out.next hb)
          clear hb p0 p1 u0 u1 v0 v1 q0 q1
          obtain ⟨_, p0, p1⟩ := HP.out
          obtain ⟨_, u0, u1⟩ := HA.out
          obtain ⟨_, v0, v1⟩ := HK.out
          obtain ⟨_, q0, q1⟩ := HQ.out
          go_wp2_with fail
          go_ret
          exact ⟨rfl, HB.out⟩
        · have x0 : (F == 0) = false := by simpa using cF
          have DD3 := HD3.out cG cH cE
          obtain ⟨g1, g2, g3, g4, g5⟩ := HG.out cG
          have y1 : IntKind.i64.wrap (p + m) = p + m := IntWalk.i64_in _ (by omega)
          have y2 : IntKind.i64.wrap (A + Z) = A + Z := IntWalk.i64_in _ (by omega)
          have y3 : decide (A ≤ p) = false := by simp; omega
          have y4 : decide (p + m < A + Z) = false := by simp; omega
          subst cG
          clear g1 g2 g3 g4 g5
          subst cH
          have z5 : (i == k) = false := by simpa using cE
          clear HF HG HD1 HD2 HD3 cF cE
          obtain ⟨_, p0, p1⟩ := HP.out
          obtain ⟨_, u0, u1⟩ := HA.out
          obtain ⟨_, v0, v1⟩ := HK.out
          obtain ⟨_, q0, q1⟩ := HQ.out
          go_wp2_with fail
          refine (AL.out _).mono ?_
          rintro e w11 ⟨rfl, hb⟩
          replace HB := Lib.hid (HB.out.trans (hb.mono HB.out.size))
          replace HP := Lib.hid (HP.out.next hb)
          replace HA := Lib.hid (HA.out.next hb)
          replace HK := Lib.hid (HK.out.next hb)
          replace HQ := Lib.hid (HQ.out.next hb)
          clear hb p0 p1 u0 u1 v0 v1 q0 q1
          obtain ⟨_, p0, p1⟩ := HP.out
          obtain ⟨_, u0, u1⟩ := HA.out
          obtain ⟨_, v0, v1⟩ := HK.out
          obtain ⟨_, q0, q1⟩ := HQ.out
          go_wp2_with fail
          refine (DD3.out _).mono ?_
          rintro e w12 ⟨rfl, hb⟩
          replace HB := Lib.hid (HB.out.trans (hb.mono HB.out.size))
          replace HP := Lib.hid (HP.out.next hb)
          replace HA := Lib.hid (HA.out.next hb)
          replace HK := Lib.hid (HK.out.next hb)
          replace HQ := Lib.hid (HQ.out.next hb)
          clear hb p0 p1 u0 u1 v0 v1 q0 q1
          go_wp2_with fail
          go_ret
          exact ⟨rfl, HB.out⟩
      · have x0 : (F == 0) = false := by simpa using cF
        obtain ⟨g1, g2, g3, g4, g5⟩ := HG.out cG
        have y1 : IntKind.i64.wrap (p + m) = p + m := IntWalk.i64_in _ (by omega)
        have y2 : IntKind.i64.wrap (A + Z) = A + Z := IntWalk.i64_in _ (by omega)
        have y3 : decide (A ≤ p) = false := by simp; omega
        have y4 : decide (p + m < A + Z) = false := by simp; omega
        subst cG
        clear g1 g2 g3 g4 g5
        have z3 : (H == 0) = false := by simpa using cH
        have z4 : (H != 0) = true := by simpa using cH
        clear HF HG HD1 HD2 HD3 cF cH
        obtain ⟨_, p0, p1⟩ := HP.out
        obtain ⟨_, u0, u1⟩ := HA.out
        obtain ⟨_, v0, v1⟩ := HK.out
        obtain ⟨_, q0, q1⟩ := HQ.out
        go_wp2_with fail
        refine (AL.out _).mono ?_
        rintro e w11 ⟨rfl, hb⟩
        replace HB := Lib.hid (HB.out.trans (hb.mono HB.out.size))
        replace HP := Lib.hid (HP.out.next hb)
        replace HA := Lib.hid (HA.out.next hb)
        replace HK := Lib.hid (HK.out.next hb)
        replace HQ := Lib.hid (HQ.out.next hb)
        clear hb p0 p1 u0 u1 v0 v1 q0 q1
        obtain ⟨_, p0, p1⟩ := HP.out
        obtain ⟨_, u0, u1⟩ := HA.out
        obtain ⟨_, v0, v1⟩ := HK.out
        obtain ⟨_, q0, q1⟩ := HQ.out
        go_wp2_with fail
        go_ret
        exact ⟨rfl, HB.out⟩
    · have x0 : (F == 0) = false := by simpa using cF
      have z1 : (G == 0) = false := by simpa using cG
      have z2 : (G != 0) = true := by simpa using cG
      clear HF HG HD1 HD2 HD3 cF cG
      obtain ⟨_, p0, p1⟩ := HP.out
      obtain ⟨_, u0, u1⟩ := HA.out
      obtain ⟨_, v0, v1⟩ := HK.out
      obtain ⟨_, q0, q1⟩ := HQ.out
      go_wp2_with fail
      refine (AL.out _).mono ?_
      rintro e w11 ⟨rfl, hb⟩
      replace HB := Lib.hid (HB.out.trans (hb.mono HB.out.size))
      replace HP := Lib.hid (HP.out.next hb)
      replace HA := Lib.hid (HA.out.next hb)
      replace HK := Lib.hid (HK.out.next hb)
      replace HQ := Lib.hid (HQ.out.next hb)
      clear hb p0 p1 u0 u1 v0 v1 q0 q1
      obtain ⟨_, p0, p1⟩ := HP.out
      obtain ⟨_, u0, u1⟩ := HA.out
      obtain ⟨_, v0, v1⟩ := HK.out
      obtain ⟨_, q0, q1⟩ := HQ.out
      go_wp2_with fail
      go_ret
      exact ⟨rfl, HB.out⟩
end Go.Proofs.Ytilfipebmgmmeaa
