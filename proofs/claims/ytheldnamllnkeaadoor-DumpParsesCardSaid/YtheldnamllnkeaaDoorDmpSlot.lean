/- The contract of dump's slotLine. -/
import Derived.Test.YtheldnamllnkeaaDoorDmpStr
import Derived.Laws.Rows
import Derived.Laws.Tables
import Derived.Laws.ResultCell
import Derived.Laws.OwnMore
import Derived.Deep.RegionHeld3
namespace Go.Proofs.YtheldnamllnkeaaDoor
namespace Pd
open Go.RowKit Dsk
set_option maxRecDepth 100000
set_option linter.unusedVariables false

/-- A report's line as a value; its exceptions are ev. -/
def Lv (x : Ln) (ev : Value) : Value := .agg #[.int .i64 x.id, .int .i64 x.st, .int .i64 x.a, .int .i64 x.n, .int .u32 (x.g : Int), .int .i64 x.room, .bool x.inv, ev]
/-- A line in a box, its slot in another one. -/
structure Bl (W : World) (k : Nat) (x : Ln) : Prop where
  lt : k + 1 < W.heap.size
  c0 : W.cell? ⟨k, 0, none⟩ = some (.int .i64 x.id)
  c5 : W.cell? ⟨k, 5, none⟩ = some (.int .i64 x.room)
  c6 : W.cell? ⟨k, 6, none⟩ = some (.bool x.inv)
  d0 : W.cell? ⟨k + 1, 0, none⟩ = some (.int .i64 x.st)
  d1 : W.cell? ⟨k + 1, 1, none⟩ = some (.int .i64 x.a)
  d2 : W.cell? ⟨k + 1, 2, none⟩ = some (.int .i64 x.n)
  d3 : W.cell? ⟨k + 1, 3, none⟩ = some (.int .u32 (x.g : Int))
theorem Bl.next {W W' : World} {k : Nat} {x : Ln} (h : Bl W k x) (hb : Below (k + 2) W W') : Bl W' k x :=
  ⟨Nat.lt_of_lt_of_le h.lt hb.size, (hb.cell (p := ⟨k, 0, none⟩) (by show k < _; omega)).trans h.c0, (hb.cell (p := ⟨k, 5, none⟩) (by show k < _; omega)).trans h.c5, (hb.cell (p := ⟨k, 6, none⟩) (by show k < _; omega)).trans h.c6,
   (hb.cell (p := ⟨k + 1, 0, none⟩) (by show k + 1 < _; omega)).trans h.d0, (hb.cell (p := ⟨k + 1, 1, none⟩) (by show k + 1 < _; omega)).trans h.d1, (hb.cell (p := ⟨k + 1, 2, none⟩) (by show k + 1 < _; omega)).trans h.d2, (hb.cell (p := ⟨k + 1, 3, none⟩) (by show k + 1 < _; omega)).trans h.d3⟩
theorem box_made (w : World) (x : Ln) (ev : Value) (W0 : World)
    (h : (w.alloc (.cells #[.int .i64 x.id, .int .i64 x.st, .int .i64 x.a, .int .i64 x.n, .int .u32 (x.g : Int), .int .i64 x.room, .bool x.inv, ev] 54)).alloc (.cells #[.int .i64 x.st, .int .i64 x.a, .int .i64 x.n, .int .u32 (x.g : Int)] 51) = W0) :
    Bl W0 w.heap.size x ∧ Below w.heap.size w W0 ∧ W0.heap.size = w.heap.size + 2 := by
  subst h
  have h1 := heap_alloc_new w (.cells #[.int .i64 x.id, .int .i64 x.st, .int .i64 x.a, .int .i64 x.n, .int .u32 (x.g : Int), .int .i64 x.room, .bool x.inv, ev] 54)
  have h2 := heap_alloc_new (w.alloc (.cells #[.int .i64 x.id, .int .i64 x.st, .int .i64 x.a, .int .i64 x.n, .int .u32 (x.g : Int), .int .i64 x.room, .bool x.inv, ev] 54)) (.cells #[.int .i64 x.st, .int .i64 x.a, .int .i64 x.n, .int .u32 (x.g : Int)] 51)
  have hs : (w.alloc (.cells #[.int .i64 x.id, .int .i64 x.st, .int .i64 x.a, .int .i64 x.n, .int .u32 (x.g : Int), .int .i64 x.room, .bool x.inv, ev] 54)).heap.size = w.heap.size + 1 := by simp
  rw [hs] at h2
  have hb : Below (w.heap.size + 1) (w.alloc (.cells #[.int .i64 x.id, .int .i64 x.st, .int .i64 x.a, .int .i64 x.n, .int .u32 (x.g : Int), .int .i64 x.room, .bool x.inv, ev] 54)) ((w.alloc (.cells #[.int .i64 x.id, .int .i64 x.st, .int .i64 x.a, .int .i64 x.n, .int .u32 (x.g : Int), .int .i64 x.room, .bool x.inv, ev] 54)).alloc (.cells #[.int .i64 x.st, .int .i64 x.a, .int .i64 x.n, .int .u32 (x.g : Int)] 51)) := (Below.refl _ _).alloc (by simp) _
  have h3 := (hb.block w.heap.size (by omega)).trans h1
  refine ⟨⟨by simp, ?_, ?_, ?_, ?_, ?_, ?_, ?_⟩, ((Below.refl _ w).alloc (Nat.le_refl _) _).alloc (by simp) _, by simp⟩
  · rw [cell_of_row _ _ _ _ _ _ h3]; rfl
  · rw [cell_of_row _ _ _ _ _ _ h3]; rfl
  · rw [cell_of_row _ _ _ _ _ _ h3]; rfl
  · rw [cell_of_row _ _ _ _ _ _ h2]; rfl
  · rw [cell_of_row _ _ _ _ _ _ h2]; rfl
  · rw [cell_of_row _ _ _ _ _ _ h2]; rfl
  · rw [cell_of_row _ _ _ _ _ _ h2]; rfl
theorem Bl.six {W : World} {k : Nat} {x : Ln} (h : Bl W k x) : W.cell? ⟨k, 0, none⟩ = some (.int .i64 x.id) ∧ W.cell? ⟨k, 5, none⟩ = some (.int .i64 x.room) ∧ W.cell? ⟨k + 1, 0, none⟩ = some (.int .i64 x.st) ∧ W.cell? ⟨k + 1, 1, none⟩ = some (.int .i64 x.a) ∧ W.cell? ⟨k + 1, 2, none⟩ = some (.int .i64 x.n) ∧ W.cell? ⟨k + 1, 3, none⟩ = some (.int .u32 (x.g : Int)) := ⟨h.c0, h.c5, h.d0, h.d1, h.d2, h.d3⟩
theorem okH_parts {x : Ln} (h : okH x = true) : okN x.id = true ∧ (x.st = 1 ∨ x.st = 2) ∧ okN x.a = true ∧ okN x.n = true ∧ okN x.room = true := by
  unfold okH at h
  simp only [Bool.and_eq_true, decide_eq_true_eq] at h
  obtain ⟨⟨⟨⟨h1, h2⟩, h3⟩, h4⟩, h5⟩ := h
  exact ⟨h1, h2, h3, h4, h5⟩
theorem wState_length (z : Int) : (wState z).length ≤ 20 := by unfold wState; split <;> decide
theorem headW_length {x : Ln} (h : okH x = true) (hg : x.g ≤ 4294967295) : ∀ y ∈ headW x, y.length ≤ 1000 := by
  obtain ⟨h1, h2, h3, h4, h5⟩ := okH_parts h
  intro y hy
  have k1 := fig_length _ h1
  have k3 := fig_length _ h3
  have k4 := fig_length _ h4
  have k5 := fig_length _ h5
  have k6 : (fig (x.g : Int)).length ≤ 20 := fig_length _ ((okN_iff _).2 (by omega))
  have k7 := wState_length x.st
  unfold headW at hy
  simp only [List.mem_cons, List.not_mem_nil, or_false] at hy
  rcases hy with rfl | rfl | rfl | rfl | rfl | rfl | rfl | rfl | rfl <;> first | omega | (simp [wSlot, wGen, wRoom])
set_option maxHeartbeats 2000000 in
theorem slot_ok (x : Ln) (ev : Value) (h : okH x = true) (hg : x.g ≤ 4294967295) (w : World) (hv : Vs w) :
    Calls Tryd.prog 31 #[Lv x ev] w fun e w' => e = .returned (.string (Om.B (line (slotW x)))) ∧ Below w.heap.size w w' := by
  obtain ⟨h1, h2, h3, h4, h5⟩ := okH_parts h
  have HL := Lib.hid (headW_length h hg)
  obtain ⟨W0, hW0⟩ : ∃ W0, (w.alloc (.cells #[.int .i64 x.id, .int .i64 x.st, .int .i64 x.a, .int .i64 x.n, .int .u32 (x.g : Int), .int .i64 x.room, .bool x.inv, ev] 54)).alloc (.cells #[.int .i64 x.st, .int .i64 x.a, .int .i64 x.n, .int .u32 (x.g : Int)] 51) = W0 := ⟨_, rfl⟩
  obtain ⟨hB, hb0, hs0⟩ := box_made w x ev W0 hW0
  have N1 := Lib.hid h1
  have N2 := Lib.hid h2
  have N3 := Lib.hid h3
  have N4 := Lib.hid h4
  have N5 := Lib.hid h5
  have VS : Hid (∀ w1, Below w.heap.size w w1 → Vs w1) := Lib.hid fun w1 hb => hv.below hb
  have BQ : Hid (∀ w1, Below (w.heap.size + 2) W0 w1 → Bl w1 w.heap.size x) := Lib.hid fun w1 hb => hB.next hb
  have SL : Hid (w.heap.size + 2 ≤ W0.heap.size) := Lib.hid (by omega)
  have VW : Hid (∀ w1, Below (w.heap.size + 2) W0 w1 → Vs w1) := Lib.hid fun w1 hb => VS.out _ (hb0.trans (hb.mono (by omega)))
  have BX : Hid (Below (w.heap.size + 2) W0 W0) := Lib.hid (Below.refl _ _)
  have BX0 := Lib.hid hb0
  have cw : IntKind.u64.wrap (x.g : Int) = (x.g : Int) := by rw [IntKind.wrap_u64]; omega
  have HG := Lib.hid hg
  obtain ⟨-, a0, a5, a6, b0, b1, b2, b3⟩ := hB
  clear h h1 h2 h3 h4 h5 hb0 hs0 hv
  unfold Lv
  go_enter Tryd.func31, Tryd.ntmps31
  go_wp2_with fail
  clear hW0
  go_region_held3 (fun w' => w'.cell? ⟨w.heap.size, 0, none⟩ = some (.int .i64 x.id) ∧ w'.cell? ⟨w.heap.size, 5, none⟩ = some (.int .i64 x.room) ∧ w'.cell? ⟨w.heap.size + 1, 0, none⟩ = some (.int .i64 x.st) ∧ w'.cell? ⟨w.heap.size + 1, 1, none⟩ = some (.int .i64 x.a) ∧ w'.cell? ⟨w.heap.size + 1, 2, none⟩ = some (.int .i64 x.n) ∧ w'.cell? ⟨w.heap.size + 1, 3, none⟩ = some (.int .u32 (x.g : Int)))
    (first | go_keep | (refine ⟨?_, ?_, ?_, ?_, ?_, ?_⟩ <;> assumption) | (exact (BQ.out _ BX.out).six))
    (first
    | (go_at_call 30; refine (number_ok _ (by first | exact N1.out | exact N3.out | exact N4.out | exact N5.out) _ (by first | exact VW.out _ BX.out | exact VW.out _ BX.out.drew)).mono ?_; rintro e w1 ⟨rfl, hb⟩; have BX : Hid (Below (w.heap.size + 2) W0 w1) := Lib.hid (by first | exact bgo BX.out SL.out hb | exact bgo BX.out SL.out (drB hb)); clear hb)
    | (go_at_call 45; refine (state_ok _ N2.out _).mono ?_; rintro e w2 ⟨rfl, rfl⟩)
    | (go_at_call 46; refine (fuint_any x.g (by have := HG.out; omega) _ (VW.out _ BX.out)).mono ?_; rintro e w3 ⟨rfl, hb⟩; have BX : Hid (Below (w.heap.size + 2) W0 w3) := Lib.hid (bgo BX.out SL.out hb); clear hb))
  clear a0 a5 a6 b0 b1 b2 b3
  rename_i hh
  clear hh
  obtain ⟨W1, hW1⟩ : ∃ W1, w1.alloc (.cells #[.string ⟨#[115, 108, 111, 116]⟩, .string (Om.B (fig x.id)), .string (Om.B (wState x.st)), .string (Om.B (fig x.a)), .string (Om.B (fig x.n)), .string ⟨#[103, 101, 110]⟩, .string (Om.B (Lib.decDigits x.g)), .string ⟨#[114, 111, 111, 109]⟩, .string (Om.B (fig x.room))] 9) = W1 := ⟨_, rfl⟩
  have hrow : Strs W1 (.slice (some ⟨w1.heap.size, 0, none⟩) 9 9) (headW x) := by
    rw [← hW1]
    exact strs_made 9 rfl (by omega) (heap_alloc_new _ _)
  have hb1 : Below w1.heap.size w1 W1 := by
    rw [← hW1]
    exact (Below.refl _ _).alloc (Nat.le_refl _) _
  rw [hW1]
  have BX2 : Hid (Below (w.heap.size + 2) W0 W1) := Lib.hid (bgo BX.out SL.out hb1)
  have a6 := (BQ.out _ BX2.out).c6
  have RW := Lib.hid hrow
  clear hW1 hb1 hrow
  obtain ⟨iv, hiv⟩ : ∃ iv, iv = x.inv := ⟨_, rfl⟩
  rw [← hiv] at a6
  cases iv with
  | false =>
    have HI := Lib.hid hiv
    clear hiv
    go_wp2_with fail
    refine (lineof_row RW.out (by simp [headW]) (by show 9 ≤ 1000; omega) HL.out).mono ?_
    rintro e w5 ⟨rfl, hb⟩
    go_wp2
    go_ret
    refine ⟨?_, BX0.out.trans ((bgo BX2.out SL.out hb).mono (by omega))⟩
    unfold slotW
    rw [← HI.out]
    rfl
  | true =>
    have HI := Lib.hid hiv
    clear hiv
    obtain ⟨W2, hW2⟩ : ∃ W2, W1.alloc (.cells #[.string ⟨#[105, 110, 118, 97, 108, 105, 100]⟩] 9) = W2 := ⟨_, rfl⟩
    have hb2 : Hid (Below W1.heap.size W1 W2) := by
      rw [← hW2]
      exact Lib.hid ((Below.refl _ _).alloc (Nat.le_refl _) _)
    have hc2 : Hid (W2.heap[W1.heap.size]? = some (.cells #[.string (Om.B wInvalid)] 9 (0, 0))) := by
      rw [← hW2]
      exact Lib.hid (heap_alloc_new _ _)
    go_wp2_with (at_builtin; refine wpList_addS rfl _ _ rfl _ (headW x) rfl (strs_next RW.out hb2.out) (by show 9 ≤ _; omega) _ wInvalid rfl hc2.out ?_; refine Hid.out ?_)
    refine Lib.hid ?_
    intro v w5 h1 h2 h3
    have RW2 := Lib.hid h1
    have BX5 : Hid (Below (w.heap.size + 2) W0 w5) := Lib.hid ((bgo BX2.out SL.out hb2.out).trans (h2.below (Nat.le_trans SL.out (bgo BX2.out SL.out hb2.out).size) (fun k hk => by cases hk; exact Nat.le_trans SL.out BX.out.size)))
    clear h1 h2 h3 hW2
    have HLI : Hid (∀ y ∈ headW x ++ [wInvalid], y.length ≤ 1000) := Lib.hid fun y hy => by
      rcases List.mem_append.1 hy with hy | hy
      · exact HL.out y hy
      · rw [List.mem_singleton.1 hy]; decide
    go_wp2_with fail
    refine (lineof_row RW2.out (by simp [headW]) (by show 10 ≤ 1000; omega) HLI.out).mono ?_
    rintro e w6 ⟨rfl, hb⟩
    go_wp2
    go_ret
    refine ⟨?_, BX0.out.trans ((bgo BX5.out SL.out hb).mono (by omega))⟩
    unfold slotW
    rw [← HI.out]
    rfl
end Pd
end Go.Proofs.YtheldnamllnkeaaDoor
