/- The contract of dump's slotLine where a number, or the state, can't be dumped. -/
import Derived.Test.YtheldnamllnkeaaDoorDmpSlot
namespace Go.Proofs.YtheldnamllnkeaaDoor
namespace Pd
open Go.RowKit Dsk
set_option maxRecDepth 100000
set_option linter.unusedVariables false

/-- For a walk through a region one of whose calls panics: what would follow if it did not. -/
theorem way_out {K L : Act → World → Prop} {S : World → Prop} (hK : Hid (∀ a w, S w → (S w → L a w) → K a w)) (hno : False) (a : Act) {B : Nat} {W0 W : World} (hB : Hid (Below B W0 W)) (h : K a W) : False := hno
/-- The numbers of a line are such as its variables hold. -/
structure Wf (x : Ln) : Prop where
  id : -9223372036854775808 ≤ x.id ∧ x.id ≤ 9223372036854775807
  a : -9223372036854775808 ≤ x.a ∧ x.a ≤ 9223372036854775807
  n : -9223372036854775808 ≤ x.n ∧ x.n ≤ 9223372036854775807
  room : -9223372036854775808 ≤ x.room ∧ x.room ≤ 9223372036854775807
  g : x.g ≤ 4294967295
set_option maxHeartbeats 2000000 in
theorem slot_no0 (x : Ln) (ev : Value) (hw : Wf x)  (hx : okN x.id = false) (w : World) (hv : Vs w) :
    Calls Tryd.prog 31 #[Lv x ev] w fun e w' => e = noE ∧ Below w.heap.size w w' := by
  obtain ⟨W0, hW0⟩ : ∃ W0, (w.alloc (.cells #[.int .i64 x.id, .int .i64 x.st, .int .i64 x.a, .int .i64 x.n, .int .u32 (x.g : Int), .int .i64 x.room, .bool x.inv, ev] 54)).alloc (.cells #[.int .i64 x.st, .int .i64 x.a, .int .i64 x.n, .int .u32 (x.g : Int)] 51) = W0 := ⟨_, rfl⟩
  obtain ⟨hB, hb0, hs0⟩ := box_made w x ev W0 hW0
  have NX := Lib.hid (fun w1 => number_no x.id hx hw.id w1)
  have BQ : Hid (∀ w1, Below (w.heap.size + 2) W0 w1 → Bl w1 w.heap.size x) := Lib.hid fun w1 hb => hB.next hb
  have SL : Hid (w.heap.size + 2 ≤ W0.heap.size) := Lib.hid (by omega)
  have VW : Hid (∀ w1, Below (w.heap.size + 2) W0 w1 → Vs w1) := Lib.hid fun w1 hb => hv.below (hb0.trans (hb.mono (by omega)))
  have BX : Hid (Below (w.heap.size + 2) W0 W0) := Lib.hid (Below.refl _ _)
  have BX0 := Lib.hid hb0
  have hg := hw.g
  have cw : IntKind.u64.wrap (x.g : Int) = (x.g : Int) := by rw [IntKind.wrap_u64]; omega
  have HG := Lib.hid hg
  obtain ⟨-, a0, a5, a6, b0, b1, b2, b3⟩ := hB
  clear hx hb0 hs0 hv hw hg
  unfold noE at NX ⊢
  unfold Lv
  go_enter Tryd.func31, Tryd.ntmps31
  go_wp2_with fail
  clear hW0
  go_region_held (fun w' => w'.cell? ⟨w.heap.size, 0, none⟩ = some (.int .i64 x.id) ∧ w'.cell? ⟨w.heap.size, 5, none⟩ = some (.int .i64 x.room) ∧ w'.cell? ⟨w.heap.size + 1, 0, none⟩ = some (.int .i64 x.st) ∧ w'.cell? ⟨w.heap.size + 1, 1, none⟩ = some (.int .i64 x.a) ∧ w'.cell? ⟨w.heap.size + 1, 2, none⟩ = some (.int .i64 x.n) ∧ w'.cell? ⟨w.heap.size + 1, 3, none⟩ = some (.int .u32 (x.g : Int)))
    (first | go_keep | (refine ⟨?_, ?_, ?_, ?_, ?_, ?_⟩ <;> assumption) | (exact (BQ.out _ BX.out).six))
    (first
    | (go_at_call 30; refine (number_ok _ (by first | exact hno.out.elim) _ (by first | exact VW.out _ BX.out | exact VW.out _ BX.out.drew)).mono ?_; rintro e w1 ⟨rfl, hb⟩; have BX : Hid (Below (w.heap.size + 2) W0 w1) := Lib.hid (by first | exact bgo BX.out SL.out hb | exact bgo BX.out SL.out (drB hb)); clear hb)
    | (go_at_call 30; refine (NX.out _).mono ?_; rintro e w2 ⟨rfl, rfl⟩; refine Classical.byContradiction fun hn => ?_; have hno : Hid False := Lib.hid (hn ⟨rfl, rfl, by first | exact BX0.out.trans (BX.out.mono (by omega)) | exact (BX0.out.trans (BX.out.mono (by omega))).drew⟩); clear hn; refine way_out (by assumption) hno.out { tmps := #[.agg #[.int .i64 x.id, .int .i64 x.st, .int .i64 x.a, .int .i64 x.n, .int .u32 (x.g : Int), .int .i64 x.room, .bool x.inv, ev], .pointer (some ⟨w.heap.size, 0, none⟩), .string ⟨#[]⟩, .pointer (some ⟨w.heap.size + 1, 0, none⟩), undef, .pointer (some ⟨w.heap.size, 1, none⟩), .agg #[.int .i64 x.st, .int .i64 x.a, .int .i64 x.n, .int .u32 (x.g : Int)], .pointer (some ⟨w.heap.size, 0, none⟩), .int .i64 x.id, .string ⟨#[]⟩, .pointer (some ⟨w.heap.size + 1, 0, none⟩), .int .i64 x.st, .string ⟨#[]⟩, .pointer (some ⟨w.heap.size + 1, 1, none⟩), .pointer (some ⟨w.heap.size + 1, 1, none⟩), .int .i64 x.a, .string ⟨#[]⟩, .pointer (some ⟨w.heap.size + 1, 1, none⟩), .pointer (some ⟨w.heap.size + 1, 2, none⟩), .int .i64 x.n, .string ⟨#[]⟩, .pointer (some ⟨w.heap.size + 1, 3, none⟩), .int .u32 (x.g : Int), .int .u64 (x.g : Int), .string ⟨#[]⟩, .pointer (some ⟨w.heap.size, 5, none⟩), .int .i64 x.room, .string ⟨#[]⟩, undef, undef, undef, undef, undef, undef, undef, undef], defers := [] } BX ?_)
    | (go_at_call 45; refine (state_ok _ (by first | exact hno.out.elim) _).mono ?_; rintro e w2 ⟨rfl, rfl⟩)
    | (go_at_call 46; refine (fuint_any x.g (by have := HG.out; omega) _ (VW.out _ BX.out)).mono ?_; rintro e w3 ⟨rfl, hb⟩; have BX : Hid (Below (w.heap.size + 2) W0 w3) := Lib.hid (bgo BX.out SL.out hb); clear hb))
  exact hno.out.elim
set_option maxHeartbeats 2000000 in
theorem slot_no1 (x : Ln) (ev : Value) (hw : Wf x) (h0 : okN x.id = true) (hx : ¬ (x.st = 1 ∨ x.st = 2)) (w : World) (hv : Vs w) :
    Calls Tryd.prog 31 #[Lv x ev] w fun e w' => e = noE ∧ Below w.heap.size w w' := by
  obtain ⟨W0, hW0⟩ : ∃ W0, (w.alloc (.cells #[.int .i64 x.id, .int .i64 x.st, .int .i64 x.a, .int .i64 x.n, .int .u32 (x.g : Int), .int .i64 x.room, .bool x.inv, ev] 54)).alloc (.cells #[.int .i64 x.st, .int .i64 x.a, .int .i64 x.n, .int .u32 (x.g : Int)] 51) = W0 := ⟨_, rfl⟩
  obtain ⟨hB, hb0, hs0⟩ := box_made w x ev W0 hW0
  have N0 := Lib.hid h0
  have SN := Lib.hid (fun w1 => state_no x.st hx w1)
  have BQ : Hid (∀ w1, Below (w.heap.size + 2) W0 w1 → Bl w1 w.heap.size x) := Lib.hid fun w1 hb => hB.next hb
  have SL : Hid (w.heap.size + 2 ≤ W0.heap.size) := Lib.hid (by omega)
  have VW : Hid (∀ w1, Below (w.heap.size + 2) W0 w1 → Vs w1) := Lib.hid fun w1 hb => hv.below (hb0.trans (hb.mono (by omega)))
  have BX : Hid (Below (w.heap.size + 2) W0 W0) := Lib.hid (Below.refl _ _)
  have BX0 := Lib.hid hb0
  have hg := hw.g
  have cw : IntKind.u64.wrap (x.g : Int) = (x.g : Int) := by rw [IntKind.wrap_u64]; omega
  have HG := Lib.hid hg
  obtain ⟨-, a0, a5, a6, b0, b1, b2, b3⟩ := hB
  clear hx hb0 hs0 hv hw hg h0
  unfold noE at SN ⊢
  unfold Lv
  go_enter Tryd.func31, Tryd.ntmps31
  go_wp2_with fail
  clear hW0
  go_region_held (fun w' => w'.cell? ⟨w.heap.size, 0, none⟩ = some (.int .i64 x.id) ∧ w'.cell? ⟨w.heap.size, 5, none⟩ = some (.int .i64 x.room) ∧ w'.cell? ⟨w.heap.size + 1, 0, none⟩ = some (.int .i64 x.st) ∧ w'.cell? ⟨w.heap.size + 1, 1, none⟩ = some (.int .i64 x.a) ∧ w'.cell? ⟨w.heap.size + 1, 2, none⟩ = some (.int .i64 x.n) ∧ w'.cell? ⟨w.heap.size + 1, 3, none⟩ = some (.int .u32 (x.g : Int)))
    (first | go_keep | (refine ⟨?_, ?_, ?_, ?_, ?_, ?_⟩ <;> assumption) | (exact (BQ.out _ BX.out).six))
    (first
    | (go_at_call 30; refine (number_ok _ (by first | exact N0.out | exact hno.out.elim) _ (by first | exact VW.out _ BX.out | exact VW.out _ BX.out.drew)).mono ?_; rintro e w1 ⟨rfl, hb⟩; have BX : Hid (Below (w.heap.size + 2) W0 w1) := Lib.hid (by first | exact bgo BX.out SL.out hb | exact bgo BX.out SL.out (drB hb)); clear hb)
    | (go_at_call 45; refine (SN.out _).mono ?_; rintro e w2 ⟨rfl, rfl⟩; refine Classical.byContradiction fun hn => ?_; have hno : Hid False := Lib.hid (hn ⟨rfl, rfl, by first | exact BX0.out.trans (BX.out.mono (by omega)) | exact (BX0.out.trans (BX.out.mono (by omega))).drew⟩); clear hn; refine way_out (by assumption) hno.out { tmps := #[.agg #[.int .i64 x.id, .int .i64 x.st, .int .i64 x.a, .int .i64 x.n, .int .u32 (x.g : Int), .int .i64 x.room, .bool x.inv, ev], .pointer (some ⟨w.heap.size, 0, none⟩), .string ⟨#[]⟩, .pointer (some ⟨w.heap.size + 1, 0, none⟩), undef, .pointer (some ⟨w.heap.size, 1, none⟩), .agg #[.int .i64 x.st, .int .i64 x.a, .int .i64 x.n, .int .u32 (x.g : Int)], .pointer (some ⟨w.heap.size, 0, none⟩), .int .i64 x.id, .string ⟨#[]⟩, .pointer (some ⟨w.heap.size + 1, 0, none⟩), .int .i64 x.st, .string ⟨#[]⟩, .pointer (some ⟨w.heap.size + 1, 1, none⟩), .pointer (some ⟨w.heap.size + 1, 1, none⟩), .int .i64 x.a, .string ⟨#[]⟩, .pointer (some ⟨w.heap.size + 1, 1, none⟩), .pointer (some ⟨w.heap.size + 1, 2, none⟩), .int .i64 x.n, .string ⟨#[]⟩, .pointer (some ⟨w.heap.size + 1, 3, none⟩), .int .u32 (x.g : Int), .int .u64 (x.g : Int), .string ⟨#[]⟩, .pointer (some ⟨w.heap.size, 5, none⟩), .int .i64 x.room, .string ⟨#[]⟩, undef, undef, undef, undef, undef, undef, undef, undef], defers := [] } BX ?_)
    | (go_at_call 46; refine (fuint_any x.g (by have := HG.out; omega) _ (VW.out _ BX.out)).mono ?_; rintro e w3 ⟨rfl, hb⟩; have BX : Hid (Below (w.heap.size + 2) W0 w3) := Lib.hid (bgo BX.out SL.out hb); clear hb))
  exact hno.out.elim
set_option maxHeartbeats 2000000 in
theorem slot_no2 (x : Ln) (ev : Value) (hw : Wf x) (h0 : okN x.id = true) (h1 : x.st = 1 ∨ x.st = 2) (hx : okN x.a = false) (w : World) (hv : Vs w) :
    Calls Tryd.prog 31 #[Lv x ev] w fun e w' => e = noE ∧ Below w.heap.size w w' := by
  obtain ⟨W0, hW0⟩ : ∃ W0, (w.alloc (.cells #[.int .i64 x.id, .int .i64 x.st, .int .i64 x.a, .int .i64 x.n, .int .u32 (x.g : Int), .int .i64 x.room, .bool x.inv, ev] 54)).alloc (.cells #[.int .i64 x.st, .int .i64 x.a, .int .i64 x.n, .int .u32 (x.g : Int)] 51) = W0 := ⟨_, rfl⟩
  obtain ⟨hB, hb0, hs0⟩ := box_made w x ev W0 hW0
  have N0 := Lib.hid h0
  have N1 := Lib.hid h1
  have NX := Lib.hid (fun w1 => number_no x.a hx hw.a w1)
  have BQ : Hid (∀ w1, Below (w.heap.size + 2) W0 w1 → Bl w1 w.heap.size x) := Lib.hid fun w1 hb => hB.next hb
  have SL : Hid (w.heap.size + 2 ≤ W0.heap.size) := Lib.hid (by omega)
  have VW : Hid (∀ w1, Below (w.heap.size + 2) W0 w1 → Vs w1) := Lib.hid fun w1 hb => hv.below (hb0.trans (hb.mono (by omega)))
  have BX : Hid (Below (w.heap.size + 2) W0 W0) := Lib.hid (Below.refl _ _)
  have BX0 := Lib.hid hb0
  have hg := hw.g
  have cw : IntKind.u64.wrap (x.g : Int) = (x.g : Int) := by rw [IntKind.wrap_u64]; omega
  have HG := Lib.hid hg
  obtain ⟨-, a0, a5, a6, b0, b1, b2, b3⟩ := hB
  clear hx hb0 hs0 hv hw hg h0 h1
  unfold noE at NX ⊢
  unfold Lv
  go_enter Tryd.func31, Tryd.ntmps31
  go_wp2_with fail
  clear hW0
  go_region_held (fun w' => w'.cell? ⟨w.heap.size, 0, none⟩ = some (.int .i64 x.id) ∧ w'.cell? ⟨w.heap.size, 5, none⟩ = some (.int .i64 x.room) ∧ w'.cell? ⟨w.heap.size + 1, 0, none⟩ = some (.int .i64 x.st) ∧ w'.cell? ⟨w.heap.size + 1, 1, none⟩ = some (.int .i64 x.a) ∧ w'.cell? ⟨w.heap.size + 1, 2, none⟩ = some (.int .i64 x.n) ∧ w'.cell? ⟨w.heap.size + 1, 3, none⟩ = some (.int .u32 (x.g : Int)))
    (first | go_keep | (refine ⟨?_, ?_, ?_, ?_, ?_, ?_⟩ <;> assumption) | (exact (BQ.out _ BX.out).six))
    (first
    | (go_at_call 30; refine (number_ok _ (by first | exact N0.out | exact hno.out.elim) _ (by first | exact VW.out _ BX.out | exact VW.out _ BX.out.drew)).mono ?_; rintro e w1 ⟨rfl, hb⟩; have BX : Hid (Below (w.heap.size + 2) W0 w1) := Lib.hid (by first | exact bgo BX.out SL.out hb | exact bgo BX.out SL.out (drB hb)); clear hb)
    | (go_at_call 30; refine (NX.out _).mono ?_; rintro e w2 ⟨rfl, rfl⟩; refine Classical.byContradiction fun hn => ?_; have hno : Hid False := Lib.hid (hn ⟨rfl, rfl, by first | exact BX0.out.trans (BX.out.mono (by omega)) | exact (BX0.out.trans (BX.out.mono (by omega))).drew⟩); clear hn; refine way_out (by assumption) hno.out { tmps := #[.agg #[.int .i64 x.id, .int .i64 x.st, .int .i64 x.a, .int .i64 x.n, .int .u32 (x.g : Int), .int .i64 x.room, .bool x.inv, ev], .pointer (some ⟨w.heap.size, 0, none⟩), .string ⟨#[]⟩, .pointer (some ⟨w.heap.size + 1, 0, none⟩), undef, .pointer (some ⟨w.heap.size, 1, none⟩), .agg #[.int .i64 x.st, .int .i64 x.a, .int .i64 x.n, .int .u32 (x.g : Int)], .pointer (some ⟨w.heap.size, 0, none⟩), .int .i64 x.id, .string ⟨#[]⟩, .pointer (some ⟨w.heap.size + 1, 0, none⟩), .int .i64 x.st, .string ⟨#[]⟩, .pointer (some ⟨w.heap.size + 1, 1, none⟩), .pointer (some ⟨w.heap.size + 1, 1, none⟩), .int .i64 x.a, .string ⟨#[]⟩, .pointer (some ⟨w.heap.size + 1, 1, none⟩), .pointer (some ⟨w.heap.size + 1, 2, none⟩), .int .i64 x.n, .string ⟨#[]⟩, .pointer (some ⟨w.heap.size + 1, 3, none⟩), .int .u32 (x.g : Int), .int .u64 (x.g : Int), .string ⟨#[]⟩, .pointer (some ⟨w.heap.size, 5, none⟩), .int .i64 x.room, .string ⟨#[]⟩, undef, undef, undef, undef, undef, undef, undef, undef], defers := [] } BX ?_)
    | (go_at_call 45; refine (state_ok _ (by first | exact N1.out | exact hno.out.elim) _).mono ?_; rintro e w2 ⟨rfl, rfl⟩)
    | (go_at_call 46; refine (fuint_any x.g (by have := HG.out; omega) _ (VW.out _ BX.out)).mono ?_; rintro e w3 ⟨rfl, hb⟩; have BX : Hid (Below (w.heap.size + 2) W0 w3) := Lib.hid (bgo BX.out SL.out hb); clear hb))
  exact hno.out.elim
set_option maxHeartbeats 2000000 in
theorem slot_no3 (x : Ln) (ev : Value) (hw : Wf x) (h0 : okN x.id = true) (h1 : x.st = 1 ∨ x.st = 2) (h2 : okN x.a = true) (hx : okN x.n = false) (w : World) (hv : Vs w) :
    Calls Tryd.prog 31 #[Lv x ev] w fun e w' => e = noE ∧ Below w.heap.size w w' := by
  obtain ⟨W0, hW0⟩ : ∃ W0, (w.alloc (.cells #[.int .i64 x.id, .int .i64 x.st, .int .i64 x.a, .int .i64 x.n, .int .u32 (x.g : Int), .int .i64 x.room, .bool x.inv, ev] 54)).alloc (.cells #[.int .i64 x.st, .int .i64 x.a, .int .i64 x.n, .int .u32 (x.g : Int)] 51) = W0 := ⟨_, rfl⟩
  obtain ⟨hB, hb0, hs0⟩ := box_made w x ev W0 hW0
  have N0 := Lib.hid h0
  have N1 := Lib.hid h1
  have N2 := Lib.hid h2
  have NX := Lib.hid (fun w1 => number_no x.n hx hw.n w1)
  have BQ : Hid (∀ w1, Below (w.heap.size + 2) W0 w1 → Bl w1 w.heap.size x) := Lib.hid fun w1 hb => hB.next hb
  have SL : Hid (w.heap.size + 2 ≤ W0.heap.size) := Lib.hid (by omega)
  have VW : Hid (∀ w1, Below (w.heap.size + 2) W0 w1 → Vs w1) := Lib.hid fun w1 hb => hv.below (hb0.trans (hb.mono (by omega)))
  have BX : Hid (Below (w.heap.size + 2) W0 W0) := Lib.hid (Below.refl _ _)
  have BX0 := Lib.hid hb0
  have hg := hw.g
  have cw : IntKind.u64.wrap (x.g : Int) = (x.g : Int) := by rw [IntKind.wrap_u64]; omega
  have HG := Lib.hid hg
  obtain ⟨-, a0, a5, a6, b0, b1, b2, b3⟩ := hB
  clear hx hb0 hs0 hv hw hg h0 h1 h2
  unfold noE at NX ⊢
  unfold Lv
  go_enter Tryd.func31, Tryd.ntmps31
  go_wp2_with fail
  clear hW0
  go_region_held (fun w' => w'.cell? ⟨w.heap.size, 0, none⟩ = some (.int .i64 x.id) ∧ w'.cell? ⟨w.heap.size, 5, none⟩ = some (.int .i64 x.room) ∧ w'.cell? ⟨w.heap.size + 1, 0, none⟩ = some (.int .i64 x.st) ∧ w'.cell? ⟨w.heap.size + 1, 1, none⟩ = some (.int .i64 x.a) ∧ w'.cell? ⟨w.heap.size + 1, 2, none⟩ = some (.int .i64 x.n) ∧ w'.cell? ⟨w.heap.size + 1, 3, none⟩ = some (.int .u32 (x.g : Int)))
    (first | go_keep | (refine ⟨?_, ?_, ?_, ?_, ?_, ?_⟩ <;> assumption) | (exact (BQ.out _ BX.out).six))
    (first
    | (go_at_call 30; refine (number_ok _ (by first | exact N0.out | exact N2.out | exact hno.out.elim) _ (by first | exact VW.out _ BX.out | exact VW.out _ BX.out.drew)).mono ?_; rintro e w1 ⟨rfl, hb⟩; have BX : Hid (Below (w.heap.size + 2) W0 w1) := Lib.hid (by first | exact bgo BX.out SL.out hb | exact bgo BX.out SL.out (drB hb)); clear hb)
    | (go_at_call 30; refine (NX.out _).mono ?_; rintro e w2 ⟨rfl, rfl⟩; refine Classical.byContradiction fun hn => ?_; have hno : Hid False := Lib.hid (hn ⟨rfl, rfl, by first | exact BX0.out.trans (BX.out.mono (by omega)) | exact (BX0.out.trans (BX.out.mono (by omega))).drew⟩); clear hn; refine way_out (by assumption) hno.out { tmps := #[.agg #[.int .i64 x.id, .int .i64 x.st, .int .i64 x.a, .int .i64 x.n, .int .u32 (x.g : Int), .int .i64 x.room, .bool x.inv, ev], .pointer (some ⟨w.heap.size, 0, none⟩), .string ⟨#[]⟩, .pointer (some ⟨w.heap.size + 1, 0, none⟩), undef, .pointer (some ⟨w.heap.size, 1, none⟩), .agg #[.int .i64 x.st, .int .i64 x.a, .int .i64 x.n, .int .u32 (x.g : Int)], .pointer (some ⟨w.heap.size, 0, none⟩), .int .i64 x.id, .string ⟨#[]⟩, .pointer (some ⟨w.heap.size + 1, 0, none⟩), .int .i64 x.st, .string ⟨#[]⟩, .pointer (some ⟨w.heap.size + 1, 1, none⟩), .pointer (some ⟨w.heap.size + 1, 1, none⟩), .int .i64 x.a, .string ⟨#[]⟩, .pointer (some ⟨w.heap.size + 1, 1, none⟩), .pointer (some ⟨w.heap.size + 1, 2, none⟩), .int .i64 x.n, .string ⟨#[]⟩, .pointer (some ⟨w.heap.size + 1, 3, none⟩), .int .u32 (x.g : Int), .int .u64 (x.g : Int), .string ⟨#[]⟩, .pointer (some ⟨w.heap.size, 5, none⟩), .int .i64 x.room, .string ⟨#[]⟩, undef, undef, undef, undef, undef, undef, undef, undef], defers := [] } BX ?_)
    | (go_at_call 45; refine (state_ok _ (by first | exact N1.out | exact hno.out.elim) _).mono ?_; rintro e w2 ⟨rfl, rfl⟩)
    | (go_at_call 46; refine (fuint_any x.g (by have := HG.out; omega) _ (VW.out _ BX.out)).mono ?_; rintro e w3 ⟨rfl, hb⟩; have BX : Hid (Below (w.heap.size + 2) W0 w3) := Lib.hid (bgo BX.out SL.out hb); clear hb))
  exact hno.out.elim
set_option maxHeartbeats 2000000 in
theorem slot_no4 (x : Ln) (ev : Value) (hw : Wf x) (h0 : okN x.id = true) (h1 : x.st = 1 ∨ x.st = 2) (h2 : okN x.a = true) (h3 : okN x.n = true) (hx : okN x.room = false) (w : World) (hv : Vs w) :
    Calls Tryd.prog 31 #[Lv x ev] w fun e w' => e = noE ∧ Below w.heap.size w w' := by
  obtain ⟨W0, hW0⟩ : ∃ W0, (w.alloc (.cells #[.int .i64 x.id, .int .i64 x.st, .int .i64 x.a, .int .i64 x.n, .int .u32 (x.g : Int), .int .i64 x.room, .bool x.inv, ev] 54)).alloc (.cells #[.int .i64 x.st, .int .i64 x.a, .int .i64 x.n, .int .u32 (x.g : Int)] 51) = W0 := ⟨_, rfl⟩
  obtain ⟨hB, hb0, hs0⟩ := box_made w x ev W0 hW0
  have N0 := Lib.hid h0
  have N1 := Lib.hid h1
  have N2 := Lib.hid h2
  have N3 := Lib.hid h3
  have NX := Lib.hid (fun w1 => number_no x.room hx hw.room w1)
  have BQ : Hid (∀ w1, Below (w.heap.size + 2) W0 w1 → Bl w1 w.heap.size x) := Lib.hid fun w1 hb => hB.next hb
  have SL : Hid (w.heap.size + 2 ≤ W0.heap.size) := Lib.hid (by omega)
  have VW : Hid (∀ w1, Below (w.heap.size + 2) W0 w1 → Vs w1) := Lib.hid fun w1 hb => hv.below (hb0.trans (hb.mono (by omega)))
  have BX : Hid (Below (w.heap.size + 2) W0 W0) := Lib.hid (Below.refl _ _)
  have BX0 := Lib.hid hb0
  have hg := hw.g
  have cw : IntKind.u64.wrap (x.g : Int) = (x.g : Int) := by rw [IntKind.wrap_u64]; omega
  have HG := Lib.hid hg
  obtain ⟨-, a0, a5, a6, b0, b1, b2, b3⟩ := hB
  clear hx hb0 hs0 hv hw hg h0 h1 h2 h3
  unfold noE at NX ⊢
  unfold Lv
  go_enter Tryd.func31, Tryd.ntmps31
  go_wp2_with fail
  clear hW0
  go_region_held (fun w' => w'.cell? ⟨w.heap.size, 0, none⟩ = some (.int .i64 x.id) ∧ w'.cell? ⟨w.heap.size, 5, none⟩ = some (.int .i64 x.room) ∧ w'.cell? ⟨w.heap.size + 1, 0, none⟩ = some (.int .i64 x.st) ∧ w'.cell? ⟨w.heap.size + 1, 1, none⟩ = some (.int .i64 x.a) ∧ w'.cell? ⟨w.heap.size + 1, 2, none⟩ = some (.int .i64 x.n) ∧ w'.cell? ⟨w.heap.size + 1, 3, none⟩ = some (.int .u32 (x.g : Int)))
    (first | go_keep | (refine ⟨?_, ?_, ?_, ?_, ?_, ?_⟩ <;> assumption) | (exact (BQ.out _ BX.out).six))
    (first
    | (go_at_call 30; refine (number_ok _ (by first | exact N0.out | exact N2.out | exact N3.out | exact hno.out.elim) _ (by first | exact VW.out _ BX.out | exact VW.out _ BX.out.drew)).mono ?_; rintro e w1 ⟨rfl, hb⟩; have BX : Hid (Below (w.heap.size + 2) W0 w1) := Lib.hid (by first | exact bgo BX.out SL.out hb | exact bgo BX.out SL.out (drB hb)); clear hb)
    | (go_at_call 30; refine (NX.out _).mono ?_; rintro e w2 ⟨rfl, rfl⟩; refine Classical.byContradiction fun hn => ?_; have hno : Hid False := Lib.hid (hn ⟨rfl, rfl, by first | exact BX0.out.trans (BX.out.mono (by omega)) | exact (BX0.out.trans (BX.out.mono (by omega))).drew⟩); clear hn; refine way_out (by assumption) hno.out { tmps := #[.agg #[.int .i64 x.id, .int .i64 x.st, .int .i64 x.a, .int .i64 x.n, .int .u32 (x.g : Int), .int .i64 x.room, .bool x.inv, ev], .pointer (some ⟨w.heap.size, 0, none⟩), .string ⟨#[]⟩, .pointer (some ⟨w.heap.size + 1, 0, none⟩), undef, .pointer (some ⟨w.heap.size, 1, none⟩), .agg #[.int .i64 x.st, .int .i64 x.a, .int .i64 x.n, .int .u32 (x.g : Int)], .pointer (some ⟨w.heap.size, 0, none⟩), .int .i64 x.id, .string ⟨#[]⟩, .pointer (some ⟨w.heap.size + 1, 0, none⟩), .int .i64 x.st, .string ⟨#[]⟩, .pointer (some ⟨w.heap.size + 1, 1, none⟩), .pointer (some ⟨w.heap.size + 1, 1, none⟩), .int .i64 x.a, .string ⟨#[]⟩, .pointer (some ⟨w.heap.size + 1, 1, none⟩), .pointer (some ⟨w.heap.size + 1, 2, none⟩), .int .i64 x.n, .string ⟨#[]⟩, .pointer (some ⟨w.heap.size + 1, 3, none⟩), .int .u32 (x.g : Int), .int .u64 (x.g : Int), .string ⟨#[]⟩, .pointer (some ⟨w.heap.size, 5, none⟩), .int .i64 x.room, .string ⟨#[]⟩, undef, undef, undef, undef, undef, undef, undef, undef], defers := [] } BX ?_)
    | (go_at_call 45; refine (state_ok _ (by first | exact N1.out | exact hno.out.elim) _).mono ?_; rintro e w2 ⟨rfl, rfl⟩)
    | (go_at_call 46; refine (fuint_any x.g (by have := HG.out; omega) _ (VW.out _ BX.out)).mono ?_; rintro e w3 ⟨rfl, hb⟩; have BX : Hid (Below (w.heap.size + 2) W0 w3) := Lib.hid (bgo BX.out SL.out hb); clear hb))
  exact hno.out.elim
theorem slot_no (x : Ln) (ev : Value) (hw : Wf x) (h : okH x = false) (w : World) (hv : Vs w) :
    Calls Tryd.prog 31 #[Lv x ev] w fun e w' => e = noE ∧ Below w.heap.size w w' := by
  cases h0 : okN x.id with
  | false => exact slot_no0 x ev hw h0 w hv
  | true =>
  by_cases h1 : x.st = 1 ∨ x.st = 2
  · cases h2 : okN x.a with
    | false => exact slot_no2 x ev hw h0 h1 h2 w hv
    | true =>
    cases h3 : okN x.n with
    | false => exact slot_no3 x ev hw h0 h1 h2 h3 w hv
    | true =>
    cases h4 : okN x.room with
    | false => exact slot_no4 x ev hw h0 h1 h2 h3 h4 w hv
    | true =>
      unfold okH at h
      rw [h0, h2, h3, h4, decide_eq_true h1] at h
      cases h
  · exact slot_no1 x ev hw h0 h1 w hv
end Pd
end Go.Proofs.YtheldnamllnkeaaDoor
