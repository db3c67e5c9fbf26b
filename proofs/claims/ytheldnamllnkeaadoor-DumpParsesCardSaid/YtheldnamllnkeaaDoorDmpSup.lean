/- The contract of dump's dumpOf where a number of the superblock can't be dumped. -/
import Derived.Test.YtheldnamllnkeaaDoorDmpRow
namespace Go.Proofs.YtheldnamllnkeaaDoor
namespace Pd
open Go.RowKit Dsk
set_option maxRecDepth 100000
set_option linter.unusedVariables false

set_option maxHeartbeats 2000000 in
theorem dumpof_no0 (r : Rp) (a : Option Addr) (c : Nat) (hw : Wr r)  (hx : okN r.s = false) (w : World) (hv : Vs w) :
    Calls Tryd.prog 18 #[Rv r a c] w fun e w' => e = noE ∧ Below w.heap.size w w' := by
  obtain ⟨W0, hW0⟩ : ∃ W0, (w.alloc (.cells #[.int .i64 r.s, .int .i64 r.o, .int .i64 r.c, .slice a r.ls.length c] 26)).alloc (.cells #[.int .i64 r.s, .int .i64 r.o, .int .i64 r.c] 23) = W0 := ⟨_, rfl⟩
  obtain ⟨hB, hb0, hs0⟩ := sup_made w r _ W0 hW0
  have NX := Lib.hid (fun w1 => number_no r.s hx hw.s w1)
  have BQ : Hid (∀ w1, Below (w.heap.size + 2) W0 w1 → Bs w1 w.heap.size r (.slice a r.ls.length c)) := Lib.hid fun w1 hb => hB.next hb
  have SL : Hid (w.heap.size + 2 ≤ W0.heap.size) := Lib.hid (by omega)
  have VW : Hid (∀ w1, Below (w.heap.size + 2) W0 w1 → Vs w1) := Lib.hid fun w1 hb => hv.below (hb0.trans (hb.mono (by omega)))
  have BX : Hid (Below (w.heap.size + 2) W0 W0) := Lib.hid (Below.refl _ _)
  have BX0 := Lib.hid hb0
  obtain ⟨-, -, b0, b1, b2⟩ := hB
  clear hx hb0 hs0 hv hw
  unfold noE at NX ⊢
  unfold Rv
  go_enter Tryd.func18, Tryd.ntmps18
  go_wp2_with fail
  clear hW0
  go_region_held (fun w' => w'.cell? ⟨w.heap.size + 1, 0, none⟩ = some (.int .i64 r.s) ∧ w'.cell? ⟨w.heap.size + 1, 1, none⟩ = some (.int .i64 r.o) ∧ w'.cell? ⟨w.heap.size + 1, 2, none⟩ = some (.int .i64 r.c))
    (first | go_keep | (refine ⟨?_, ?_, ?_⟩ <;> assumption) | (exact (BQ.out _ BX.out).three))
    (first
    | (go_at_call 30; refine (number_ok _ (by first | exact hno.out.elim) _ (by first | exact VW.out _ BX.out | exact VW.out _ BX.out.drew)).mono ?_; rintro e w1 ⟨rfl, hb⟩; have BX : Hid (Below (w.heap.size + 2) W0 w1) := Lib.hid (by first | exact bgo BX.out SL.out hb | exact bgo BX.out SL.out (drB hb)); clear hb)
    | (go_at_call 30; refine (NX.out _).mono ?_; rintro e w2 ⟨rfl, rfl⟩; refine Classical.byContradiction fun hn => ?_; have hno : Hid False := Lib.hid (hn ⟨rfl, rfl, by first | exact BX0.out.trans (BX.out.mono (by omega)) | exact (BX0.out.trans (BX.out.mono (by omega))).drew⟩); clear hn; refine way_out (by assumption) hno.out { tmps := #[.agg #[.int .i64 r.s, .int .i64 r.o, .int .i64 r.c, .slice a r.ls.length c], .pointer (some ⟨w.heap.size, 0, none⟩), .slice none 0 0, .pointer (some ⟨w.heap.size + 1, 0, none⟩), undef, undef, undef, undef, undef, .pointer (some ⟨w.heap.size, 0, none⟩), .agg #[.int .i64 r.s, .int .i64 r.o, .int .i64 r.c], .pointer (some ⟨w.heap.size + 1, 0, none⟩), .int .i64 r.s, .string ⟨#[]⟩, .pointer (some ⟨w.heap.size + 1, 1, none⟩), .int .i64 r.o, .string ⟨#[]⟩, .pointer (some ⟨w.heap.size + 1, 2, none⟩), .int .i64 r.c, .string ⟨#[]⟩, undef, undef, undef, undef, undef, undef, undef, undef, undef, undef, undef, undef, undef, undef, undef, undef, undef, undef, undef, undef, undef, undef, undef, undef, undef, undef, undef, undef, undef, undef, undef, undef, undef, undef, undef, undef], defers := [] } BX ?_)
    | (go_at_call 29; refine (show Calls _ _ _ _ (fun e w' => e = .returned (.string ⟨#[]⟩) ∧ Below (w.heap.size + 2) W0 w') from hno.out.elim).mono ?_; rintro e w4 ⟨rfl, hb⟩; have BX : Hid (Below (w.heap.size + 2) W0 w4) := Lib.hid hb; clear hb))
  exact hno.out.elim
set_option maxHeartbeats 2000000 in
theorem dumpof_no1 (r : Rp) (a : Option Addr) (c : Nat) (hw : Wr r) (h0 : okN r.s = true) (hx : okN r.o = false) (w : World) (hv : Vs w) :
    Calls Tryd.prog 18 #[Rv r a c] w fun e w' => e = noE ∧ Below w.heap.size w w' := by
  obtain ⟨W0, hW0⟩ : ∃ W0, (w.alloc (.cells #[.int .i64 r.s, .int .i64 r.o, .int .i64 r.c, .slice a r.ls.length c] 26)).alloc (.cells #[.int .i64 r.s, .int .i64 r.o, .int .i64 r.c] 23) = W0 := ⟨_, rfl⟩
  obtain ⟨hB, hb0, hs0⟩ := sup_made w r _ W0 hW0
  have N0 := Lib.hid h0
  have NX := Lib.hid (fun w1 => number_no r.o hx hw.o w1)
  have BQ : Hid (∀ w1, Below (w.heap.size + 2) W0 w1 → Bs w1 w.heap.size r (.slice a r.ls.length c)) := Lib.hid fun w1 hb => hB.next hb
  have SL : Hid (w.heap.size + 2 ≤ W0.heap.size) := Lib.hid (by omega)
  have VW : Hid (∀ w1, Below (w.heap.size + 2) W0 w1 → Vs w1) := Lib.hid fun w1 hb => hv.below (hb0.trans (hb.mono (by omega)))
  have BX : Hid (Below (w.heap.size + 2) W0 W0) := Lib.hid (Below.refl _ _)
  have BX0 := Lib.hid hb0
  obtain ⟨-, -, b0, b1, b2⟩ := hB
  clear hx hb0 hs0 hv hw h0
  unfold noE at NX ⊢
  unfold Rv
  go_enter Tryd.func18, Tryd.ntmps18
  go_wp2_with fail
  clear hW0
  go_region_held (fun w' => w'.cell? ⟨w.heap.size + 1, 0, none⟩ = some (.int .i64 r.s) ∧ w'.cell? ⟨w.heap.size + 1, 1, none⟩ = some (.int .i64 r.o) ∧ w'.cell? ⟨w.heap.size + 1, 2, none⟩ = some (.int .i64 r.c))
    (first | go_keep | (refine ⟨?_, ?_, ?_⟩ <;> assumption) | (exact (BQ.out _ BX.out).three))
    (first
    | (go_at_call 30; refine (number_ok _ (by first | exact N0.out | exact hno.out.elim) _ (by first | exact VW.out _ BX.out | exact VW.out _ BX.out.drew)).mono ?_; rintro e w1 ⟨rfl, hb⟩; have BX : Hid (Below (w.heap.size + 2) W0 w1) := Lib.hid (by first | exact bgo BX.out SL.out hb | exact bgo BX.out SL.out (drB hb)); clear hb)
    | (go_at_call 30; refine (NX.out _).mono ?_; rintro e w2 ⟨rfl, rfl⟩; refine Classical.byContradiction fun hn => ?_; have hno : Hid False := Lib.hid (hn ⟨rfl, rfl, by first | exact BX0.out.trans (BX.out.mono (by omega)) | exact (BX0.out.trans (BX.out.mono (by omega))).drew⟩); clear hn; refine way_out (by assumption) hno.out { tmps := #[.agg #[.int .i64 r.s, .int .i64 r.o, .int .i64 r.c, .slice a r.ls.length c], .pointer (some ⟨w.heap.size, 0, none⟩), .slice none 0 0, .pointer (some ⟨w.heap.size + 1, 0, none⟩), undef, undef, undef, undef, undef, .pointer (some ⟨w.heap.size, 0, none⟩), .agg #[.int .i64 r.s, .int .i64 r.o, .int .i64 r.c], .pointer (some ⟨w.heap.size + 1, 0, none⟩), .int .i64 r.s, .string ⟨#[]⟩, .pointer (some ⟨w.heap.size + 1, 1, none⟩), .int .i64 r.o, .string ⟨#[]⟩, .pointer (some ⟨w.heap.size + 1, 2, none⟩), .int .i64 r.c, .string ⟨#[]⟩, undef, undef, undef, undef, undef, undef, undef, undef, undef, undef, undef, undef, undef, undef, undef, undef, undef, undef, undef, undef, undef, undef, undef, undef, undef, undef, undef, undef, undef, undef, undef, undef, undef, undef, undef, undef], defers := [] } BX ?_)
    | (go_at_call 29; refine (show Calls _ _ _ _ (fun e w' => e = .returned (.string ⟨#[]⟩) ∧ Below (w.heap.size + 2) W0 w') from hno.out.elim).mono ?_; rintro e w4 ⟨rfl, hb⟩; have BX : Hid (Below (w.heap.size + 2) W0 w4) := Lib.hid hb; clear hb))
  exact hno.out.elim
set_option maxHeartbeats 2000000 in
theorem dumpof_no2 (r : Rp) (a : Option Addr) (c : Nat) (hw : Wr r) (h0 : okN r.s = true) (h1 : okN r.o = true) (hx : okN r.c = false) (w : World) (hv : Vs w) :
    Calls Tryd.prog 18 #[Rv r a c] w fun e w' => e = noE ∧ Below w.heap.size w w' := by
  obtain ⟨W0, hW0⟩ : ∃ W0, (w.alloc (.cells #[.int .i64 r.s, .int .i64 r.o, .int .i64 r.c, .slice a r.ls.length c] 26)).alloc (.cells #[.int .i64 r.s, .int .i64 r.o, .int .i64 r.c] 23) = W0 := ⟨_, rfl⟩
  obtain ⟨hB, hb0, hs0⟩ := sup_made w r _ W0 hW0
  have N0 := Lib.hid h0
  have N1 := Lib.hid h1
  have NX := Lib.hid (fun w1 => number_no r.c hx hw.c w1)
  have BQ : Hid (∀ w1, Below (w.heap.size + 2) W0 w1 → Bs w1 w.heap.size r (.slice a r.ls.length c)) := Lib.hid fun w1 hb => hB.next hb
  have SL : Hid (w.heap.size + 2 ≤ W0.heap.size) := Lib.hid (by omega)
  have VW : Hid (∀ w1, Below (w.heap.size + 2) W0 w1 → Vs w1) := Lib.hid fun w1 hb => hv.below (hb0.trans (hb.mono (by omega)))
  have BX : Hid (Below (w.heap.size + 2) W0 W0) := Lib.hid (Below.refl _ _)
  have BX0 := Lib.hid hb0
  obtain ⟨-, -, b0, b1, b2⟩ := hB
  clear hx hb0 hs0 hv hw h0 h1
  unfold noE at NX ⊢
  unfold Rv
  go_enter Tryd.func18, Tryd.ntmps18
  go_wp2_with fail
  clear hW0
  go_region_held (fun w' => w'.cell? ⟨w.heap.size + 1, 0, none⟩ = some (.int .i64 r.s) ∧ w'.cell? ⟨w.heap.size + 1, 1, none⟩ = some (.int .i64 r.o) ∧ w'.cell? ⟨w.heap.size + 1, 2, none⟩ = some (.int .i64 r.c))
    (first | go_keep | (refine ⟨?_, ?_, ?_⟩ <;> assumption) | (exact (BQ.out _ BX.out).three))
    (first
    | (go_at_call 30; refine (number_ok _ (by first | exact N0.out | exact N1.out | exact hno.out.elim) _ (by first | exact VW.out _ BX.out | exact VW.out _ BX.out.drew)).mono ?_; rintro e w1 ⟨rfl, hb⟩; have BX : Hid (Below (w.heap.size + 2) W0 w1) := Lib.hid (by first | exact bgo BX.out SL.out hb | exact bgo BX.out SL.out (drB hb)); clear hb)
    | (go_at_call 30; refine (NX.out _).mono ?_; rintro e w2 ⟨rfl, rfl⟩; refine Classical.byContradiction fun hn => ?_; have hno : Hid False := Lib.hid (hn ⟨rfl, rfl, by first | exact BX0.out.trans (BX.out.mono (by omega)) | exact (BX0.out.trans (BX.out.mono (by omega))).drew⟩); clear hn; refine way_out (by assumption) hno.out { tmps := #[.agg #[.int .i64 r.s, .int .i64 r.o, .int .i64 r.c, .slice a r.ls.length c], .pointer (some ⟨w.heap.size, 0, none⟩), .slice none 0 0, .pointer (some ⟨w.heap.size + 1, 0, none⟩), undef, undef, undef, undef, undef, .pointer (some ⟨w.heap.size, 0, none⟩), .agg #[.int .i64 r.s, .int .i64 r.o, .int .i64 r.c], .pointer (some ⟨w.heap.size + 1, 0, none⟩), .int .i64 r.s, .string ⟨#[]⟩, .pointer (some ⟨w.heap.size + 1, 1, none⟩), .int .i64 r.o, .string ⟨#[]⟩, .pointer (some ⟨w.heap.size + 1, 2, none⟩), .int .i64 r.c, .string ⟨#[]⟩, undef, undef, undef, undef, undef, undef, undef, undef, undef, undef, undef, undef, undef, undef, undef, undef, undef, undef, undef, undef, undef, undef, undef, undef, undef, undef, undef, undef, undef, undef, undef, undef, undef, undef, undef, undef], defers := [] } BX ?_)
    | (go_at_call 29; refine (show Calls _ _ _ _ (fun e w' => e = .returned (.string ⟨#[]⟩) ∧ Below (w.heap.size + 2) W0 w') from hno.out.elim).mono ?_; rintro e w4 ⟨rfl, hb⟩; have BX : Hid (Below (w.heap.size + 2) W0 w4) := Lib.hid hb; clear hb))
  exact hno.out.elim
end Pd
end Go.Proofs.YtheldnamllnkeaaDoor
