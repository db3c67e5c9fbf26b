/- Contract of layout's Chunk. -/
import Derived.Test.YtilfipebmgmmeaaLayoutPage
namespace Go.Proofs.Ytilfipebmgmmeaa
open Go.RowKit
set_option maxRecDepth 100000
set_option linter.unusedVariables false

theorem results_ext {fn : Func} {p u : Tmp} (h : fn.results = #[.cell p 37, .tmp u]) (tmps : Array Value) (w : World) (g : Nat) (x y v : Value)
    (hp : tmps.getD p undef = .pointer (some ⟨g, 0, none⟩)) (hu : tmps.getD u undef = v) (hg : w.heap[g]? = some (.cells #[x, y] 37 (0, 0))) :
    (results fn tmps).run Try.prog w = .ok (.tuple #[.agg #[x, y], v]) w := by
  have hi : (Try.prog.info? 37).map (·.size) = some (#[x, y] : Array Value).size := by show _ = some 2; kernel_rfl
  rw [results_cell_tmp h, hp, hu]
  simp [asAddr, run_loadVar_row w g 37 37 #[x, y] (0, 0) _ hg Try.underlying37 rfl hi, Result.andThen]
theorem chunk_made (w : World) (a n g p m : Int) (W0 : World) (h : ((w.alloc (.cells #[.int .i64 a, .int .i64 n, .int .i64 g] 25)).alloc (.cells #[.int .i64 p, .int .i64 m] 37)).alloc (.cells #[.int .i64 0, .int .i64 0] 37) = W0) :
    Below w.heap.size w W0 ∧ Ux W0 w.heap.size a n g ∧ W0.cell? ⟨w.heap.size + 1, 0, none⟩ = some (.int .i64 p) ∧ W0.cell? ⟨w.heap.size + 1, 1, none⟩ = some (.int .i64 m) ∧
    W0.heap[w.heap.size + 2]? = some (.cells #[.int .i64 0, .int .i64 0] 37 (0, 0)) ∧ W0.heap.size = w.heap.size + 3 := by
  subst h
  obtain ⟨hB, hx, b0, b1, hs⟩ := pair_made w a n g p m _ rfl
  obtain ⟨W1, hW1⟩ : ∃ W1, (w.alloc (.cells #[.int .i64 a, .int .i64 n, .int .i64 g] 25)).alloc (.cells #[.int .i64 p, .int .i64 m] 37) = W1 := ⟨_, rfl⟩
  rw [hW1] at hB hx b0 b1 hs ⊢
  have h2 := heap_alloc_new W1 (.cells #[.int .i64 0, .int .i64 0] 37)
  have hb : Below W1.heap.size W1 (W1.alloc (.cells #[.int .i64 0, .int .i64 0] 37)) := (Below.refl _ _).alloc (Nat.le_refl _) _
  rw [hs] at h2
  exact ⟨hB.trans (hb.mono hB.size), hx.next hb, (hb.cell (p := ⟨w.heap.size + 1, 0, none⟩) (by simp [hs])).trans b0, (hb.cell (p := ⟨w.heap.size + 1, 1, none⟩) (by simp [hs])).trans b1, h2, by simp [hs]⟩
theorem lchunk_err (a n g p m i r e : Int) (w : World) (hr : RoomIs a n g p m r e) (he : e ≠ 0) :
    Calls Try.prog 14 #[.agg #[.int .i64 a, .int .i64 n, .int .i64 g], .agg #[.int .i64 p, .int .i64 m], .int .i64 i] w fun x w' => x = .returned (.tuple #[.agg #[.int .i64 0, .int .i64 0], .int .i64 e]) ∧ Below w.heap.size w w' := by
  have R := Lib.hid hr
  unfold RoomIs at R
  have hd : (e != 0) = true := by simpa using he
  obtain ⟨W0, hW0⟩ : ∃ W0, ((w.alloc (.cells #[.int .i64 a, .int .i64 n, .int .i64 g] 25)).alloc (.cells #[.int .i64 p, .int .i64 m] 37)).alloc (.cells #[.int .i64 0, .int .i64 0] 37) = W0 := ⟨_, rfl⟩
  obtain ⟨hB, ⟨_, a0, a1, a2⟩, b0, b1, hz, hsz⟩ := chunk_made w a n g p m W0 hW0
  have HB := Lib.hid hB
  have SZ := Lib.hid hsz
  have HZ := Lib.hid hz
  clear hr he hB hsz hz
  go_enter Try.func14, Try.ntmps14
  go_wp2_with fail
  clear hW0
  refine (R.out _).mono ?_
  rintro e w1 ⟨rfl, hb⟩
  have HB1 := Lib.hid (HB.out.trans (hb.mono HB.out.size))
  have hz1 := (hb.block (w.heap.size + 2) (by rw [SZ.out]; omega)).trans HZ.out
  have Z1 := Lib.hid hz1
  obtain ⟨z0, z1, zf⟩ := duo_cells hz1
  clear hb a0 a1 a2 b0 b1 hz1
  go_wp2_with fail
  refine bodyPost_ret (results_ext (p := 6) (u := 7) rfl _ _ (w.heap.size + 2) _ _ _ rfl rfl (duo_set Z1.out _ _)) rfl ⟨rfl, ?_⟩
  exact below_duo HB1.out (by omega) _ _
theorem lchunk_low (a n g p m i r : Int) (w : World) (hr : RoomIs a n g p m r 0) (hi : i < 0) :
    Calls Try.prog 14 #[.agg #[.int .i64 a, .int .i64 n, .int .i64 g], .agg #[.int .i64 p, .int .i64 m], .int .i64 i] w fun x w' => x = .returned (.tuple #[.agg #[.int .i64 0, .int .i64 0], .int .i64 2]) ∧ Below w.heap.size w w' := by
  have R := Lib.hid hr
  unfold RoomIs at R
  have hd : decide (i < 0) = true := by simpa using hi
  obtain ⟨W0, hW0⟩ : ∃ W0, ((w.alloc (.cells #[.int .i64 a, .int .i64 n, .int .i64 g] 25)).alloc (.cells #[.int .i64 p, .int .i64 m] 37)).alloc (.cells #[.int .i64 0, .int .i64 0] 37) = W0 := ⟨_, rfl⟩
  obtain ⟨hB, ⟨_, a0, a1, a2⟩, b0, b1, hz, hsz⟩ := chunk_made w a n g p m W0 hW0
  have HB := Lib.hid hB
  have SZ := Lib.hid hsz
  have HZ := Lib.hid hz
  clear hr hi hB hsz hz
  go_enter Try.func14, Try.ntmps14
  go_wp2_with fail
  clear hW0
  refine (R.out _).mono ?_
  rintro e w1 ⟨rfl, hb⟩
  have HB1 := Lib.hid (HB.out.trans (hb.mono HB.out.size))
  have hz1 := (hb.block (w.heap.size + 2) (by rw [SZ.out]; omega)).trans HZ.out
  have Z1 := Lib.hid hz1
  obtain ⟨z0, z1, zf⟩ := duo_cells hz1
  clear hb a0 a1 a2 b0 b1 hz1
  go_wp2_with fail
  refine bodyPost_ret (results_ext (p := 6) (u := 7) rfl _ _ (w.heap.size + 2) _ _ _ rfl rfl (duo_set Z1.out _ _)) rfl ⟨rfl, ?_⟩
  exact below_duo HB1.out (by omega) _ _
theorem lchunk_high (a n g p m i r : Int) (w : World) (hr : RoomIs a n g p m r 0) (hi : 0 ≤ i) (hh : r ≤ i) :
    Calls Try.prog 14 #[.agg #[.int .i64 a, .int .i64 n, .int .i64 g], .agg #[.int .i64 p, .int .i64 m], .int .i64 i] w fun x w' => x = .returned (.tuple #[.agg #[.int .i64 0, .int .i64 0], .int .i64 2]) ∧ Below w.heap.size w w' := by
  have R := Lib.hid hr
  unfold RoomIs at R
  have hd : decide (i < 0) = false := by simpa using hi
  have hd2 : decide (r ≤ i) = true := by simpa using hh
  obtain ⟨W0, hW0⟩ : ∃ W0, ((w.alloc (.cells #[.int .i64 a, .int .i64 n, .int .i64 g] 25)).alloc (.cells #[.int .i64 p, .int .i64 m] 37)).alloc (.cells #[.int .i64 0, .int .i64 0] 37) = W0 := ⟨_, rfl⟩
  obtain ⟨hB, ⟨_, a0, a1, a2⟩, b0, b1, hz, hsz⟩ := chunk_made w a n g p m W0 hW0
  have HB := Lib.hid hB
  have SZ := Lib.hid hsz
  have HZ := Lib.hid hz
  clear hr hi hh hB hsz hz
  go_enter Try.func14, Try.ntmps14
  go_wp2_with fail
  clear hW0
  refine (R.out _).mono ?_
  rintro e w1 ⟨rfl, hb⟩
  have HB1 := Lib.hid (HB.out.trans (hb.mono HB.out.size))
  have hz1 := (hb.block (w.heap.size + 2) (by rw [SZ.out]; omega)).trans HZ.out
  have Z1 := Lib.hid hz1
  obtain ⟨z0, z1, zf⟩ := duo_cells hz1
  clear hb a0 a1 a2 b0 b1 hz1
  go_wp2_with fail
  refine bodyPost_ret (results_ext (p := 6) (u := 7) rfl _ _ (w.heap.size + 2) _ _ _ rfl rfl (duo_set Z1.out _ _)) rfl ⟨rfl, ?_⟩
  exact below_duo HB1.out (by omega) _ _
theorem lchunk_ok (a n g p m i : Int) (r : Nat) (w : World) (h : Um.okU a n g = true) (hr : RoomIs a n g p m r 0) (hi : 0 ≤ i) (hr2 : r ≤ 1048576) (hh : i < r) (hp : 0 ≤ p) (hp2 : p ≤ 1048576) :
    Calls Try.prog 14 #[.agg #[.int .i64 a, .int .i64 n, .int .i64 g], .agg #[.int .i64 p, .int .i64 m], .int .i64 i] w fun x w' => x = .returned (.tuple #[.agg #[.int .i64 (p + 1 + (Em.parts r 13 : Nat) + i * g), .int .i64 g], .int .i64 0]) ∧ Below w.heap.size w w' := by
  have R := Lib.hid hr
  unfold RoomIs at R
  have G := Lib.hid (fun w1 => lgeom_ok a n g w1 h)
  obtain ⟨k1, k2, k3, k4, k5, k6⟩ := Um.okU_small h
  have P := Lib.hid (fun w1 => Geo.pages_ok n g r w1 ((Em.right_iff n g).2 ⟨k1, k2, k3, k4⟩) (by omega))
  have hle := Em.parts_le r 13
  obtain ⟨P13, hP⟩ : ∃ q, q = ((Em.parts r 13 : Nat) : Int) := ⟨_, rfl⟩
  rw [← hP] at P ⊢
  obtain ⟨q, hq⟩ : ∃ q, i * g = q := ⟨_, rfl⟩
  have hq0 : 0 ≤ q := by rw [← hq]; exact Int.mul_nonneg hi (by omega)
  have hq1 : q ≤ 134217728 := by
    have : i * g ≤ 1048576 * 128 := Int.mul_le_mul (by omega) (by omega) (by omega) (by omega)
    omega
  have HQ := Lib.hid hq
  obtain ⟨rr, hrr⟩ : ∃ q, q = (r : Int) := ⟨_, rfl⟩
  rw [← hrr] at P R hh
  have hd : decide (i < 0) = false := by simp; omega
  have hd2 : decide (rr ≤ i) = false := by simpa using hh
  have e1 : IntKind.i64.wrap (p + 1) = p + 1 := IntWalk.i64_in _ (by omega)
  have e2 : IntKind.i64.wrap (p + 1 + P13) = p + 1 + P13 := IntWalk.i64_in _ (by omega)
  have e3 : IntKind.i64.wrap q = q := IntWalk.i64_in _ (by omega)
  have e4 : IntKind.i64.wrap (p + 1 + P13 + q) = p + 1 + P13 + q := IntWalk.i64_in _ (by omega)
  obtain ⟨W0, hW0⟩ : ∃ W0, ((w.alloc (.cells #[.int .i64 a, .int .i64 n, .int .i64 g] 25)).alloc (.cells #[.int .i64 p, .int .i64 m] 37)).alloc (.cells #[.int .i64 0, .int .i64 0] 37) = W0 := ⟨_, rfl⟩
  obtain ⟨hB, hx, b0, b1, hz, hsz⟩ := chunk_made w a n g p m W0 hW0
  have HB := Lib.hid hB
  have HX := Lib.hid hx
  have hlt : w.heap.size + 2 < W0.heap.size := by omega
  have HZ := Lib.hid hz
  obtain ⟨_, a0, a1, a2⟩ := hx
  clear h hr hi hr2 hh hB hsz hz k1 k2 k3 k4 k5 k6 hP hrr hp hp2 hle hq0 hq1
  go_enter Try.func14, Try.ntmps14
  go_wp2_with fail
  clear hW0
  refine (R.out _).mono ?_
  rintro e w1 ⟨rfl, hb⟩
  have HB1 := Lib.hid (HB.out.trans (hb.mono HB.out.size))
  have Z1 := Lib.hid ((hb.block (w.heap.size + 2) hlt).trans HZ.out)
  have HX1 := Lib.hid (HX.out.next hb)
  clear a0 a1 a2
  obtain ⟨lt0, a0, a1, a2⟩ := HX1.out
  replace b0 := (hb.cell (p := ⟨w.heap.size + 1, 0, none⟩) (by show w.heap.size + 1 < _; omega)).trans b0
  replace b1 := (hb.cell (p := ⟨w.heap.size + 1, 1, none⟩) (by show w.heap.size + 1 < _; omega)).trans b1
  replace hlt : w.heap.size + 2 < w1.heap.size := Nat.lt_of_lt_of_le hlt hb.size
  have hlt1 : w.heap.size + 1 < w1.heap.size := by omega
  have HLT := Lib.hid hlt
  clear hb hlt
  go_wp2_with fail
  go_region_held3 (fun w' => (w'.cell? ⟨w.heap.size, 0, none⟩ = some (.int .i64 a) ∧ w'.cell? ⟨w.heap.size, 1, none⟩ = some (.int .i64 n) ∧ w'.cell? ⟨w.heap.size, 2, none⟩ = some (.int .i64 g)) ∧ w'.cell? ⟨w.heap.size + 1, 0, none⟩ = some (.int .i64 p) ∧ w'.cell? ⟨w.heap.size + 1, 1, none⟩ = some (.int .i64 m))
    (first | go_keep | (refine ⟨⟨?_, ?_, ?_⟩, ?_, ?_⟩ <;> assumption) | (exact ⟨⟨(BX.out.cell (p := ⟨w.heap.size, 0, none⟩) lt0).trans a0, (BX.out.cell (p := ⟨w.heap.size, 1, none⟩) lt0).trans a1, (BX.out.cell (p := ⟨w.heap.size, 2, none⟩) lt0).trans a2⟩, (BX.out.cell (p := ⟨w.heap.size + 1, 0, none⟩) hlt1).trans b0, (BX.out.cell (p := ⟨w.heap.size + 1, 1, none⟩) hlt1).trans b1⟩))
    (first | (go_at_call 9; refine (G.out _).mono ?_; rintro e w2 ⟨rfl, hb2⟩; have BX : Hid (Below w1.heap.size w1 w2) := (Below.refl _ _).drew.trans hb2; have B1 := BX; clear hb2) | (go_at_call 19; refine (P.out _).mono ?_; rintro e w3 ⟨rfl, hb3⟩; have BX : Hid (Below w1.heap.size w1 w3) := B1.out.trans (hb3.mono B1.out.size); clear hb3))
  have HB3 := Lib.hid (HB1.out.trans (BX.out.mono HB1.out.size))
  have hz3 := (BX.out.block (w.heap.size + 2) HLT.out).trans Z1.out
  have Z3 := Lib.hid hz3
  obtain ⟨z0, z1, zf⟩ := duo_cells hz3
  clear hz3
  go_wp2_with fail
  refine bodyPost_ret (results_ext (p := 6) (u := 7) rfl _ _ (w.heap.size + 2) _ _ _ rfl rfl (duo_set Z3.out _ _)) rfl ⟨?_, ?_⟩
  · simp [HQ.out]
  · exact below_duo HB3.out (by omega) _ _
end Go.Proofs.Ytilfipebmgmmeaa
