/- Contract of layout's Page. -/
import Derived.Test.YtilfipebmgmmeaaLayoutRoom
namespace Go.Proofs.Ytilfipebmgmmeaa
open Go.RowKit
set_option maxRecDepth 100000
set_option linter.unusedVariables false

/-- What Room gives. -/
def RoomIs (a n g p m r e : Int) : Prop := ∀ w1 : World, Calls Try.prog 18 #[.agg #[.int .i64 a, .int .i64 n, .int .i64 g], .agg #[.int .i64 p, .int .i64 m]] w1 fun x w' => x = .returned (.tuple #[.int .i64 r, .int .i64 e]) ∧ Below w1.heap.size w1 w'
theorem lpage_err (a n g p m i r e : Int) (w : World) (hr : RoomIs a n g p m r e) (he : e ≠ 0) :
    Calls Try.prog 13 #[.agg #[.int .i64 a, .int .i64 n, .int .i64 g], .agg #[.int .i64 p, .int .i64 m], .int .i64 i] w fun x w' => x = .returned (.tuple #[.int .i64 0, .int .i64 e]) ∧ Below w.heap.size w w' := by
  have R := Lib.hid hr
  unfold RoomIs at R
  have hd : (e != 0) = true := by simpa using he
  obtain ⟨W0, hW0⟩ : ∃ W0, (w.alloc (.cells #[.int .i64 a, .int .i64 n, .int .i64 g] 25)).alloc (.cells #[.int .i64 p, .int .i64 m] 37) = W0 := ⟨_, rfl⟩
  obtain ⟨hB, ⟨_, a0, a1, a2⟩, b0, b1, hsz⟩ := pair_made w a n g p m W0 hW0
  have HB := Lib.hid hB
  clear hr he hB hsz
  go_enter Try.func13, Try.ntmps13
  go_wp2_with fail
  clear hW0
  refine (R.out _).mono ?_
  rintro e w1 ⟨rfl, hb⟩
  have HB1 := Lib.hid (HB.out.trans (hb.mono HB.out.size))
  clear hb a0 a1 a2 b0 b1
  go_wp2_with fail
  go_ret2
  exact ⟨rfl, HB1.out⟩
theorem lpage_low (a n g p m i r : Int) (w : World) (hr : RoomIs a n g p m r 0) (hi : i < 0) :
    Calls Try.prog 13 #[.agg #[.int .i64 a, .int .i64 n, .int .i64 g], .agg #[.int .i64 p, .int .i64 m], .int .i64 i] w fun x w' => x = .returned (.tuple #[.int .i64 0, .int .i64 2]) ∧ Below w.heap.size w w' := by
  have R := Lib.hid hr
  unfold RoomIs at R
  have hd : decide (i < 0) = true := by simpa using hi
  obtain ⟨W0, hW0⟩ : ∃ W0, (w.alloc (.cells #[.int .i64 a, .int .i64 n, .int .i64 g] 25)).alloc (.cells #[.int .i64 p, .int .i64 m] 37) = W0 := ⟨_, rfl⟩
  obtain ⟨hB, ⟨_, a0, a1, a2⟩, b0, b1, hsz⟩ := pair_made w a n g p m W0 hW0
  have HB := Lib.hid hB
  clear hr hi hB hsz
  go_enter Try.func13, Try.ntmps13
  go_wp2_with fail
  clear hW0
  refine (R.out _).mono ?_
  rintro e w1 ⟨rfl, hb⟩
  have HB1 := Lib.hid (HB.out.trans (hb.mono HB.out.size))
  clear hb a0 a1 a2 b0 b1
  go_wp2_with fail
  go_ret2
  exact ⟨rfl, HB1.out⟩
theorem lpage_high (a n g p m i : Int) (r : Nat) (w : World) (h : Um.okU a n g = true) (hr : RoomIs a n g p m r 0) (hi : 0 ≤ i) (hr2 : r ≤ 1048576) (hh : (Em.parts r 13 : Nat) ≤ i) :
    Calls Try.prog 13 #[.agg #[.int .i64 a, .int .i64 n, .int .i64 g], .agg #[.int .i64 p, .int .i64 m], .int .i64 i] w fun x w' => x = .returned (.tuple #[.int .i64 0, .int .i64 2]) ∧ Below w.heap.size w w' := by
  have R := Lib.hid hr
  unfold RoomIs at R
  have G := Lib.hid (fun w1 => lgeom_ok a n g w1 h)
  obtain ⟨k1, k2, k3, k4, k5, k6⟩ := Um.okU_small h
  have P := Lib.hid (fun w1 => Geo.pages_ok n g r w1 ((Em.right_iff n g).2 ⟨k1, k2, k3, k4⟩) (by omega))
  obtain ⟨P13, hP⟩ : ∃ q, q = ((Em.parts r 13 : Nat) : Int) := ⟨_, rfl⟩
  rw [← hP] at P hh
  obtain ⟨rr, hrr⟩ : ∃ q, q = (r : Int) := ⟨_, rfl⟩
  rw [← hrr] at P R
  have hd : decide (i < 0) = false := by simp; omega
  have hd2 : decide (P13 ≤ i) = true := by simpa using hh
  obtain ⟨W0, hW0⟩ : ∃ W0, (w.alloc (.cells #[.int .i64 a, .int .i64 n, .int .i64 g] 25)).alloc (.cells #[.int .i64 p, .int .i64 m] 37) = W0 := ⟨_, rfl⟩
  obtain ⟨hB, hx, b0, b1, hsz⟩ := pair_made w a n g p m W0 hW0
  have HB := Lib.hid hB
  have HX := Lib.hid hx
  obtain ⟨_, a0, a1, a2⟩ := hx
  clear h hr hi hr2 hh hB hsz k1 k2 k3 k4 k5 k6 hP hrr
  go_enter Try.func13, Try.ntmps13
  go_wp2_with fail
  clear hW0
  refine (R.out _).mono ?_
  rintro e w1 ⟨rfl, hb⟩
  have HB1 := Lib.hid (HB.out.trans (hb.mono HB.out.size))
  clear a0 a1 a2 b0 b1
  obtain ⟨lt0, a0, a1, a2⟩ := HX.out.next hb
  clear hb
  go_wp2_with fail
  refine (G.out _).mono ?_
  rintro e w2 ⟨rfl, hb⟩
  have HB2 := Lib.hid (HB1.out.trans (hb.mono HB1.out.size))
  clear hb a0 a1 a2
  go_wp2_with fail
  refine (P.out _).mono ?_
  rintro e w3 ⟨rfl, hb⟩
  have HB3 := Lib.hid (HB2.out.trans (hb.mono HB2.out.size))
  clear hb
  go_wp2_with fail
  go_ret2
  exact ⟨rfl, HB3.out⟩
theorem lpage_ok (a n g p m i : Int) (r : Nat) (w : World) (h : Um.okU a n g = true) (hr : RoomIs a n g p m r 0) (hi : 0 ≤ i) (hr2 : r ≤ 1048576) (hh : i < (Em.parts r 13 : Nat)) (hp : 0 ≤ p) (hp2 : p ≤ 1048576) :
    Calls Try.prog 13 #[.agg #[.int .i64 a, .int .i64 n, .int .i64 g], .agg #[.int .i64 p, .int .i64 m], .int .i64 i] w fun x w' => x = .returned (.tuple #[.int .i64 (p + 1 + i), .int .i64 0]) ∧ Below w.heap.size w w' := by
  have R := Lib.hid hr
  unfold RoomIs at R
  have G := Lib.hid (fun w1 => lgeom_ok a n g w1 h)
  obtain ⟨k1, k2, k3, k4, k5, k6⟩ := Um.okU_small h
  have P := Lib.hid (fun w1 => Geo.pages_ok n g r w1 ((Em.right_iff n g).2 ⟨k1, k2, k3, k4⟩) (by omega))
  have hle := Em.parts_le r 13
  obtain ⟨P13, hP⟩ : ∃ q, q = ((Em.parts r 13 : Nat) : Int) := ⟨_, rfl⟩
  rw [← hP] at P hh
  obtain ⟨rr, hrr⟩ : ∃ q, q = (r : Int) := ⟨_, rfl⟩
  rw [← hrr] at P R
  have hd : decide (i < 0) = false := by simp; omega
  have hd2 : decide (P13 ≤ i) = false := by simpa using hh
  have e1 : IntKind.i64.wrap (p + 1) = p + 1 := IntWalk.i64_in _ (by omega)
  have e2 : IntKind.i64.wrap (p + 1 + i) = p + 1 + i := IntWalk.i64_in _ (by omega)
  obtain ⟨W0, hW0⟩ : ∃ W0, (w.alloc (.cells #[.int .i64 a, .int .i64 n, .int .i64 g] 25)).alloc (.cells #[.int .i64 p, .int .i64 m] 37) = W0 := ⟨_, rfl⟩
  obtain ⟨hB, hx, b0, b1, hsz⟩ := pair_made w a n g p m W0 hW0
  have HB := Lib.hid hB
  have HX := Lib.hid hx
  have hlt : w.heap.size + 1 < W0.heap.size := by omega
  obtain ⟨_, a0, a1, a2⟩ := hx
  clear h hr hi hr2 hh hB hsz k1 k2 k3 k4 k5 k6 hP hrr hp hp2 hle
  go_enter Try.func13, Try.ntmps13
  go_wp2_with fail
  clear hW0
  refine (R.out _).mono ?_
  rintro e w1 ⟨rfl, hb⟩
  have HB1 := Lib.hid (HB.out.trans (hb.mono HB.out.size))
  clear a0 a1 a2
  obtain ⟨lt0, a0, a1, a2⟩ := HX.out.next hb
  replace b0 := (hb.cell (p := ⟨w.heap.size + 1, 0, none⟩) hlt).trans b0
  replace hlt : w.heap.size + 1 < w1.heap.size := Nat.lt_of_lt_of_le hlt hb.size
  clear hb b1
  go_wp2_with fail
  refine (G.out _).mono ?_
  rintro e w2 ⟨rfl, hb⟩
  have HB2 := Lib.hid (HB1.out.trans (hb.mono HB1.out.size))
  replace b0 := (hb.cell (p := ⟨w.heap.size + 1, 0, none⟩) hlt).trans b0
  replace hlt : w.heap.size + 1 < w2.heap.size := Nat.lt_of_lt_of_le hlt hb.size
  clear hb a0 a1 a2
  go_wp2_with fail
  refine (P.out _).mono ?_
  rintro e w3 ⟨rfl, hb⟩
  have HB3 := Lib.hid (HB2.out.trans (hb.mono HB2.out.size))
  replace b0 := (hb.cell (p := ⟨w.heap.size + 1, 0, none⟩) hlt).trans b0
  clear hb
  go_wp2_with fail
  go_ret2
  exact ⟨rfl, HB3.out⟩
end Go.Proofs.Ytilfipebmgmmeaa
