/- Contracts of layout's within and Room. -/
import Derived.Test.YtilfipebmgmmeaaLayoutGet
import Derived.Test.YtilfipebmgmmeaaGeomRooms
namespace Go.Proofs.Ytilfipebmgmmeaa
open Go.RowKit
set_option maxRecDepth 100000
set_option linter.unusedVariables false

/-- Does an extent, of 0 sectors at least, lie in another one? -/
def inB (p m s l : Int) : Bool := decide (0 ≤ m) && (decide (s ≤ p) && decide (m ≤ s + l - p))
theorem inB_iff (p m s l : Int) : inB p m s l = true ↔ 0 ≤ m ∧ s ≤ p ∧ m ≤ s + l - p := by
  unfold inB; simp
theorem within_made (w : World) (p m s l : Int) (W0 : World) (h : (w.alloc (.cells #[.int .i64 p, .int .i64 m] 37)).alloc (.cells #[.int .i64 s, .int .i64 l] 37) = W0) :
    Below w.heap.size w W0 ∧ W0.cell? ⟨w.heap.size, 0, none⟩ = some (.int .i64 p) ∧ W0.cell? ⟨w.heap.size, 1, none⟩ = some (.int .i64 m) ∧
    W0.cell? ⟨w.heap.size + 1, 0, none⟩ = some (.int .i64 s) ∧ W0.cell? ⟨w.heap.size + 1, 1, none⟩ = some (.int .i64 l) := by
  subst h
  have h1 := heap_alloc_new w (.cells #[.int .i64 p, .int .i64 m] 37)
  have h2 := heap_alloc_new (w.alloc (.cells #[.int .i64 p, .int .i64 m] 37)) (.cells #[.int .i64 s, .int .i64 l] 37)
  have hs : (w.alloc (.cells #[.int .i64 p, .int .i64 m] 37)).heap.size = w.heap.size + 1 := by simp
  rw [hs] at h2
  have hb : Below (w.heap.size + 1) (w.alloc (.cells #[.int .i64 p, .int .i64 m] 37)) ((w.alloc (.cells #[.int .i64 p, .int .i64 m] 37)).alloc (.cells #[.int .i64 s, .int .i64 l] 37)) := (Below.refl _ _).alloc (by simp) _
  have h1' := (hb.block w.heap.size (by omega)).trans h1
  obtain ⟨a0, a1, _⟩ := duo_cells h1'
  obtain ⟨b0, b1, _⟩ := duo_cells h2
  exact ⟨((Below.refl _ w).alloc (Nat.le_refl _) _).alloc (by simp) _, a0, a1, b0, b1⟩
theorem within_any (p m s l : Int) (w : World) (hp : p ≤ 9223372036854775807) (h0 : 0 ≤ s) (h1 : 0 ≤ s + l) (h2 : s + l ≤ 1048576) :
    Calls Try.prog 21 #[.agg #[.int .i64 p, .int .i64 m], .agg #[.int .i64 s, .int .i64 l]] w fun e w' => e = .returned (.bool (inB p m s l)) ∧ Below w.heap.size w w' := by
  obtain ⟨W0, hW0⟩ : ∃ W0, (w.alloc (.cells #[.int .i64 p, .int .i64 m] 37)).alloc (.cells #[.int .i64 s, .int .i64 l] 37) = W0 := ⟨_, rfl⟩
  obtain ⟨hB, a0, a1, b0, b1⟩ := within_made w p m s l W0 hW0
  have HB := Lib.hid hB
  clear hB
  by_cases c1 : 0 ≤ m
  · have d1 : decide (0 ≤ m) = true := by simpa using c1
    by_cases c2 : s ≤ p
    · have d2 : decide (s ≤ p) = true := by simpa using c2
      have e1 : IntKind.i64.wrap (s + l) = s + l := IntWalk.i64_in _ (by omega)
      have e2 : IntKind.i64.wrap (s + l - p) = s + l - p := IntWalk.i64_in _ (by omega)
      have HR := Lib.hid (show inB p m s l = decide (m ≤ s + l - p) by unfold inB; rw [d1, d2]; rfl)
      clear c1 c2 hp h0 h1 h2
      go_enter Try.func21, Try.ntmps21
      go_wp2_with fail
      clear hW0
      go_wp2_with fail
      go_ret
      exact ⟨by rw [HR.out]; rfl, HB.out⟩
    · have d2 : decide (s ≤ p) = false := by simpa using c2
      have HR := Lib.hid (show inB p m s l = false by unfold inB; rw [d1, d2]; rfl)
      clear c1 c2 hp h0 h1 h2
      go_enter Try.func21, Try.ntmps21
      go_wp2_with fail
      clear hW0
      go_wp2_with fail
      go_ret
      exact ⟨by rw [HR.out]; rfl, HB.out⟩
  · have d1 : decide (0 ≤ m) = false := by simpa using c1
    have HR := Lib.hid (show inB p m s l = false by unfold inB; rw [d1]; rfl)
    clear c1 hp h0 h1 h2
    go_enter Try.func21, Try.ntmps21
    go_wp2_with fail
    clear hW0
    go_wp2_with fail
    go_ret
    exact ⟨by rw [HR.out]; rfl, HB.out⟩
/-- A layout and an extent in boxes. -/
theorem pair_made (w : World) (a n g p m : Int) (W0 : World) (h : (w.alloc (.cells #[.int .i64 a, .int .i64 n, .int .i64 g] 25)).alloc (.cells #[.int .i64 p, .int .i64 m] 37) = W0) :
    Below w.heap.size w W0 ∧ Ux W0 w.heap.size a n g ∧ W0.cell? ⟨w.heap.size + 1, 0, none⟩ = some (.int .i64 p) ∧ W0.cell? ⟨w.heap.size + 1, 1, none⟩ = some (.int .i64 m) ∧ W0.heap.size = w.heap.size + 2 := by
  subst h
  have h1 := ux_alloc w a n g 25
  have h2 := heap_alloc_new (w.alloc (.cells #[.int .i64 a, .int .i64 n, .int .i64 g] 25)) (.cells #[.int .i64 p, .int .i64 m] 37)
  have hs : (w.alloc (.cells #[.int .i64 a, .int .i64 n, .int .i64 g] 25)).heap.size = w.heap.size + 1 := by simp
  rw [hs] at h2
  obtain ⟨b0, b1, _⟩ := duo_cells h2
  exact ⟨((Below.refl _ w).alloc (Nat.le_refl _) _).alloc (by simp) _, h1.next ((Below.refl _ _).alloc (Nat.le_refl _) _), b0, b1, by simp⟩
theorem lroom_no (a n g p m : Int) (w : World) (h : Um.okU a n g = false) :
    Calls Try.prog 18 #[.agg #[.int .i64 a, .int .i64 n, .int .i64 g], .agg #[.int .i64 p, .int .i64 m]] w fun e w' => e = .returned (.tuple #[.int .i64 0, .int .i64 1]) ∧ Below w.heap.size w w' := by
  have R := Lib.hid (fun w1 => told_any a n g w1)
  rw [h] at R
  obtain ⟨W0, hW0⟩ : ∃ W0, (w.alloc (.cells #[.int .i64 a, .int .i64 n, .int .i64 g] 25)).alloc (.cells #[.int .i64 p, .int .i64 m] 37) = W0 := ⟨_, rfl⟩
  obtain ⟨hB, ⟨_, a0, a1, a2⟩, b0, b1, hsz⟩ := pair_made w a n g p m W0 hW0
  have HB := Lib.hid hB
  clear h hB hsz
  go_enter Try.func18, Try.ntmps18
  go_wp2_with fail
  clear hW0
  refine (R.out _).mono ?_
  rintro e w1 ⟨rfl, hb⟩
  have HB1 := Lib.hid (HB.out.trans (hb.mono HB.out.size))
  clear hb a0 a1 a2 b0 b1
  go_wp2_with fail
  go_ret2
  exact ⟨rfl, HB1.out⟩
/-- The stores' bounds. -/
theorem stores_small {a n g : Int} (h : Um.okU a n g = true) : 0 ≤ 17 + n ∧ 0 ≤ 17 + n + (a - (17 + n)) ∧ 17 + n + (a - (17 + n)) ≤ 1048576 := by
  obtain ⟨h1, h2, h3, h4, h5, h6⟩ := Um.okU_small h
  omega
theorem lroom_out (a n g p m : Int) (w : World) (h : Um.okU a n g = true) (hp : p ≤ 9223372036854775807) (hi : inB p m (17 + n) (a - (17 + n)) = false) :
    Calls Try.prog 18 #[.agg #[.int .i64 a, .int .i64 n, .int .i64 g], .agg #[.int .i64 p, .int .i64 m]] w fun e w' => e = .returned (.tuple #[.int .i64 0, .int .i64 2]) ∧ Below w.heap.size w w' := by
  have R := Lib.hid (fun w1 => told_any a n g w1)
  rw [h] at R
  obtain ⟨h1, h2, h3⟩ := stores_small h
  have C := Lib.hid (fun w1 => lstores_ok a n g w1 h)
  have D := Lib.hid (fun w1 => within_any p m (17 + n) (a - (17 + n)) w1 hp h1 h2 h3)
  rw [hi] at D
  obtain ⟨s, hs⟩ : ∃ s, s = 17 + n := ⟨_, rfl⟩
  obtain ⟨l, hl⟩ : ∃ l, l = a - (17 + n) := ⟨_, rfl⟩
  rw [← hl] at C D
  rw [← hs] at C D
  obtain ⟨W0, hW0⟩ : ∃ W0, (w.alloc (.cells #[.int .i64 a, .int .i64 n, .int .i64 g] 25)).alloc (.cells #[.int .i64 p, .int .i64 m] 37) = W0 := ⟨_, rfl⟩
  obtain ⟨hB, hx, b0, b1, hsz⟩ := pair_made w a n g p m W0 hW0
  have HB := Lib.hid hB
  have HX := Lib.hid hx
  have hlt : w.heap.size + 1 < W0.heap.size := by omega
  obtain ⟨_, a0, a1, a2⟩ := hx
  clear h hB hsz hi hs hl h1 h2 h3 hp
  go_enter Try.func18, Try.ntmps18
  go_wp2_with fail
  clear hW0
  refine (R.out _).mono ?_
  rintro e w1 ⟨rfl, hb⟩
  replace b0 := (hb.cell (p := ⟨w.heap.size + 1, 0, none⟩) hlt).trans b0
  replace b1 := (hb.cell (p := ⟨w.heap.size + 1, 1, none⟩) hlt).trans b1
  have HB1 := Lib.hid (HB.out.trans (hb.mono HB.out.size))
  clear a0 a1 a2
  obtain ⟨lt0, a0, a1, a2⟩ := HX.out.next hb
  replace hlt : w.heap.size + 1 < w1.heap.size := Nat.lt_of_lt_of_le hlt hb.size
  clear hb
  go_wp2_with fail
  go_region_held3 (fun w' => (w'.cell? ⟨w.heap.size, 0, none⟩ = some (.int .i64 a) ∧ w'.cell? ⟨w.heap.size, 1, none⟩ = some (.int .i64 n) ∧ w'.cell? ⟨w.heap.size, 2, none⟩ = some (.int .i64 g)) ∧ w'.cell? ⟨w.heap.size + 1, 0, none⟩ = some (.int .i64 p) ∧ w'.cell? ⟨w.heap.size + 1, 1, none⟩ = some (.int .i64 m))
    (first | go_keep | (refine ⟨⟨?_, ?_, ?_⟩, ?_, ?_⟩ <;> assumption) | (exact ⟨⟨(BX.out.cell (p := ⟨w.heap.size, 0, none⟩) lt0).trans a0, (BX.out.cell (p := ⟨w.heap.size, 1, none⟩) lt0).trans a1, (BX.out.cell (p := ⟨w.heap.size, 2, none⟩) lt0).trans a2⟩, (BX.out.cell (p := ⟨w.heap.size + 1, 0, none⟩) hlt).trans b0, (BX.out.cell (p := ⟨w.heap.size + 1, 1, none⟩) hlt).trans b1⟩))
    (first | (go_at_call 11; refine (C.out _).mono ?_; rintro e w2 ⟨rfl, hb2⟩; have BX : Hid (Below w1.heap.size w1 w2) := (Below.refl _ _).drew.trans hb2; have B1 := BX; clear hb2) | (go_at_call 21; refine (D.out _).mono ?_; rintro e w3 ⟨rfl, hb3⟩; have BX : Hid (Below w1.heap.size w1 w3) := B1.out.trans (hb3.mono B1.out.size); clear hb3))
  go_wp2_with fail
  go_ret2
  exact ⟨rfl, HB1.out.trans (BX.out.mono HB1.out.size)⟩
theorem lroom_ok (a n g p : Int) (m : Nat) (w : World) (h : Um.okU a n g = true) (hp : p ≤ 9223372036854775807) (hi : inB p m (17 + n) (a - (17 + n)) = true) :
    Calls Try.prog 18 #[.agg #[.int .i64 a, .int .i64 n, .int .i64 g], .agg #[.int .i64 p, .int .i64 (m : Int)]] w fun e w' => e = .returned (.tuple #[.int .i64 (Em.room g.toNat m : Nat), .int .i64 (Geo.noneE (Em.room g.toNat m))]) ∧ Below w.heap.size w w' := by
  have R := Lib.hid (fun w1 => told_any a n g w1)
  rw [h] at R
  obtain ⟨h1, h2, h3⟩ := stores_small h
  obtain ⟨k1, k2, k3, k4, k5, k6⟩ := Um.okU_small h
  obtain ⟨i1, i2, i3⟩ := (inB_iff _ _ _ _).1 hi
  have C := Lib.hid (fun w1 => lstores_ok a n g w1 h)
  have D := Lib.hid (fun w1 => within_any p m (17 + n) (a - (17 + n)) w1 hp h1 h2 h3)
  rw [hi] at D
  have G := Lib.hid (fun w1 => lgeom_ok a n g w1 h)
  have hr : Em.rightB n g = true := (Em.right_iff n g).2 ⟨k1, k2, k3, k4⟩
  obtain ⟨N, hN⟩ : ∃ N : Nat, n = (N : Int) := ⟨n.toNat, by omega⟩
  obtain ⟨K, hK⟩ : ∃ K : Nat, g = (K : Int) := ⟨g.toNat, by omega⟩
  have E : Hid (∀ w1 : World, Calls Try.prog 22 #[.agg #[.int .i64 n, .int .i64 g], .int .i64 (m : Int)] w1 fun e w' => e = .returned (.tuple #[.int .i64 (Em.room g.toNat m : Nat), .int .i64 (Geo.noneE (Em.room g.toNat m))]) ∧ Below w1.heap.size w1 w') := fun w1 => by
    rw [hN, hK] at hr ⊢
    exact Geo.room_ok N K m w1 hr (by omega)
  obtain ⟨r, hre⟩ : ∃ r, r = Em.room g.toNat m := ⟨_, rfl⟩
  rw [← hre] at E ⊢
  obtain ⟨e, he⟩ : ∃ e, e = Geo.noneE r := ⟨_, rfl⟩
  rw [← he] at E ⊢
  obtain ⟨s, hs⟩ : ∃ s, s = 17 + n := ⟨_, rfl⟩
  obtain ⟨l, hl⟩ : ∃ l, l = a - (17 + n) := ⟨_, rfl⟩
  rw [← hl] at C D
  rw [← hs] at C D
  obtain ⟨M, hM⟩ : ∃ M, M = (m : Int) := ⟨_, rfl⟩
  rw [← hM] at D E ⊢
  obtain ⟨W0, hW0⟩ : ∃ W0, (w.alloc (.cells #[.int .i64 a, .int .i64 n, .int .i64 g] 25)).alloc (.cells #[.int .i64 p, .int .i64 M] 37) = W0 := ⟨_, rfl⟩
  obtain ⟨hB, hx, b0, b1, hsz⟩ := pair_made w a n g p M W0 hW0
  have HB := Lib.hid hB
  have HX := Lib.hid hx
  have hlt : w.heap.size + 1 < W0.heap.size := by omega
  obtain ⟨_, a0, a1, a2⟩ := hx
  clear h hB hsz hi hs hl h1 h2 h3 hp k1 k2 k3 k4 k5 k6 i1 i2 i3 hr hN hK hre he hM
  go_enter Try.func18, Try.ntmps18
  go_wp2_with fail
  clear hW0
  refine (R.out _).mono ?_
  rintro e w1 ⟨rfl, hb⟩
  replace b0 := (hb.cell (p := ⟨w.heap.size + 1, 0, none⟩) hlt).trans b0
  replace b1 := (hb.cell (p := ⟨w.heap.size + 1, 1, none⟩) hlt).trans b1
  have HB1 := Lib.hid (HB.out.trans (hb.mono HB.out.size))
  have HX1 := Lib.hid (HX.out.next hb)
  clear a0 a1 a2
  obtain ⟨lt0, a0, a1, a2⟩ := HX1.out
  replace hlt : w.heap.size + 1 < w1.heap.size := Nat.lt_of_lt_of_le hlt hb.size
  clear hb
  go_wp2_with fail
  go_region_held3 (fun w' => (w'.cell? ⟨w.heap.size, 0, none⟩ = some (.int .i64 a) ∧ w'.cell? ⟨w.heap.size, 1, none⟩ = some (.int .i64 n) ∧ w'.cell? ⟨w.heap.size, 2, none⟩ = some (.int .i64 g)) ∧ w'.cell? ⟨w.heap.size + 1, 0, none⟩ = some (.int .i64 p) ∧ w'.cell? ⟨w.heap.size + 1, 1, none⟩ = some (.int .i64 M))
    (first | go_keep | (refine ⟨⟨?_, ?_, ?_⟩, ?_, ?_⟩ <;> assumption) | (exact ⟨⟨(BX.out.cell (p := ⟨w.heap.size, 0, none⟩) lt0).trans a0, (BX.out.cell (p := ⟨w.heap.size, 1, none⟩) lt0).trans a1, (BX.out.cell (p := ⟨w.heap.size, 2, none⟩) lt0).trans a2⟩, (BX.out.cell (p := ⟨w.heap.size + 1, 0, none⟩) hlt).trans b0, (BX.out.cell (p := ⟨w.heap.size + 1, 1, none⟩) hlt).trans b1⟩))
    (first | (go_at_call 11; refine (C.out _).mono ?_; rintro e w2 ⟨rfl, hb2⟩; have BX : Hid (Below w1.heap.size w1 w2) := (Below.refl _ _).drew.trans hb2; have B1 := BX; clear hb2) | (go_at_call 21; refine (D.out _).mono ?_; rintro e w3 ⟨rfl, hb3⟩; have BX : Hid (Below w1.heap.size w1 w3) := B1.out.trans (hb3.mono B1.out.size); clear hb3))
  have HB3 := Lib.hid (HB1.out.trans (BX.out.mono HB1.out.size))
  replace b0 := (BX.out.cell (p := ⟨w.heap.size + 1, 0, none⟩) hlt).trans b0
  replace b1 := (BX.out.cell (p := ⟨w.heap.size + 1, 1, none⟩) hlt).trans b1
  clear lt0 a0 a1 a2
  obtain ⟨lt0, a0, a1, a2⟩ := HX1.out.next BX.out
  replace hlt : w.heap.size + 1 < w3.heap.size := Nat.lt_of_lt_of_le hlt BX.out.size
  clear BX B1
  go_wp2_with fail
  go_region_held3 (fun w' => (w'.cell? ⟨w.heap.size, 0, none⟩ = some (.int .i64 a) ∧ w'.cell? ⟨w.heap.size, 1, none⟩ = some (.int .i64 n) ∧ w'.cell? ⟨w.heap.size, 2, none⟩ = some (.int .i64 g)) ∧ w'.cell? ⟨w.heap.size + 1, 0, none⟩ = some (.int .i64 p) ∧ w'.cell? ⟨w.heap.size + 1, 1, none⟩ = some (.int .i64 M))
    (first | go_keep | (refine ⟨⟨?_, ?_, ?_⟩, ?_, ?_⟩ <;> assumption) | (exact ⟨⟨(BX.out.cell (p := ⟨w.heap.size, 0, none⟩) lt0).trans a0, (BX.out.cell (p := ⟨w.heap.size, 1, none⟩) lt0).trans a1, (BX.out.cell (p := ⟨w.heap.size, 2, none⟩) lt0).trans a2⟩, (BX.out.cell (p := ⟨w.heap.size + 1, 0, none⟩) hlt).trans b0, (BX.out.cell (p := ⟨w.heap.size + 1, 1, none⟩) hlt).trans b1⟩))
    (first | (go_at_call 9; refine (G.out _).mono ?_; rintro e w4 ⟨rfl, hb4⟩; have BX : Hid (Below w3.heap.size w3 w4) := (Below.refl _ _).drew.trans hb4; have B1 := BX; clear hb4) | (go_at_call 22; refine (E.out _).mono ?_; rintro e w5 ⟨rfl, hb5⟩; have BX : Hid (Below w3.heap.size w3 w5) := B1.out.trans (hb5.mono B1.out.size); clear hb5))
  go_wp2_with fail
  go_ret2
  exact ⟨rfl, HB3.out.trans (BX.out.mono HB3.out.size)⟩
end Go.Proofs.Ytilfipebmgmmeaa
