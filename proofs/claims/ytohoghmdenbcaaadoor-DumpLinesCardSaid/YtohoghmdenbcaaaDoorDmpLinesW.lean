/- The law of a report's lines: its walk. -/
import Derived.Test.YtohoghmdenbcaaaDoorDmpRefN
namespace Go.Proofs.YtohoghmdenbcaaaDoor
namespace Pd
open Go.RowKit Dsk Go.Maps
set_option maxRecDepth 100000
set_option linter.unusedVariables false

set_option maxHeartbeats 2000000 in
theorem dlines_any (r : Rp) (a : Option Addr) (c : Nat) (w : World) (hw : Wr r) (hv : Vs w) (hg : 0 < w.heap.size) (hl : RLns w a r.ls) (hn : r.ls.length ≤ 9223372036854775807) (hes : ∀ x ∈ r.ls, x.es.length ≤ 9223372036854775807) :
    Calls Tryd.prog 3 #[Rv r a c] w fun e w' => e = .returned (.bool true) ∧ Below w.heap.size w w' := by
  obtain ⟨W0, hW0⟩ : ∃ W0, w.alloc (.cells #[.int .i64 r.s, .int .i64 r.o, .int .i64 r.c, .slice a r.ls.length c] 26) = W0 := ⟨_, rfl⟩
  have hB : Below w.heap.size w W0 := by rw [← hW0]; exact (Below.refl _ _).alloc (Nat.le_refl _) _
  have hR : W0.heap[w.heap.size]? = some (.cells #[.int .i64 r.s, .int .i64 r.o, .int .i64 r.c, .slice a r.ls.length c] 26 (0, 0)) := by rw [← hW0]; exact heap_alloc_new _ _
  have HB0 := Lib.hid hB
  have HR0 := Lib.hid hR
  have HW := Lib.hid hw
  have V0 := Lib.hid (hv.below hB)
  have G0 : Hid (0 < W0.heap.size) := Lib.hid (Nat.lt_of_lt_of_le hg hB.size)
  have RL0 := Lib.hid (hl.below hB)
  have FI := Lib.hid (fits_any r a c W0 RL0.out hn hes)
  have e0 : W0.cell? ⟨w.heap.size, 0, none⟩ = some (.int .i64 r.s) := by rw [cell_of_row _ _ _ _ _ _ hR]; rfl
  have e1 : W0.cell? ⟨w.heap.size, 1, none⟩ = some (.int .i64 r.o) := by rw [cell_of_row _ _ _ _ _ _ hR]; rfl
  have e2 : W0.cell? ⟨w.heap.size, 2, none⟩ = some (.int .i64 r.c) := by rw [cell_of_row _ _ _ _ _ _ hR]; rfl
  have e3 : W0.cell? ⟨w.heap.size, 3, none⟩ = some (.slice a r.ls.length c) := by rw [cell_of_row _ _ _ _ _ _ hR]; rfl
  clear hw hv hg hl hn hes hB hR
  unfold Rv at FI ⊢
  go_enter Tryd.func3, Tryd.ntmps3
  go_wp2_with fail
  clear hW0 e0 e1 e2 e3
  refine FI.out.mono ?_
  rintro e w1 ⟨rfl, hb1⟩
  have B1 := Lib.hid hb1
  clear hb1
  have BW : Hid (Below w.heap.size w w1) := Lib.hid (bgo HB0.out (Nat.le_refl _) B1.out)
  have V1 := Lib.hid (V0.out.below B1.out)
  have G1 : Hid (0 < w1.heap.size) := Lib.hid (Nat.lt_of_lt_of_le G0.out B1.out.size)
  have RL1 := Lib.hid (RL0.out.below B1.out)
  have HR1 : Hid (w1.heap[w.heap.size]? = some (.cells #[.int .i64 r.s, .int .i64 r.o, .int .i64 r.c, .slice a r.ls.length c] 26 (0, 0))) := Lib.hid ((B1.out.block _ (Array.getElem?_eq_some_iff.1 HR0.out).1).trans HR0.out)
  cases hF : fitB r with
  | false =>
    have AV := Lib.hid (alive_any w1 V1.out G1.out)
    clear hF
    go_wp2_with fail
    refine AV.out.mono ?_
    rintro e w2 ⟨rfl, hb2⟩
    have B2 : Hid (Below w1.heap.size w1 w2) := Lib.hid hb2
    clear hb2
    go_wp2
    go_ret
    exact ⟨rfl, bgo BW.out (Nat.le_refl _) B2.out⟩
  | true =>
    obtain ⟨n60, es60⟩ := fitB_yes hF
    have N60 := Lib.hid n60
    have ES60 := Lib.hid es60
    have LI := Lib.hid (lines_any r a c HW.out n60 es60 w1 V1.out RL1.out)
    have CE : Hid (∀ W, Below w1.heap.size w1 W → W.cell? ⟨w.heap.size, 0, none⟩ = some (.int .i64 r.s) ∧ W.cell? ⟨w.heap.size, 1, none⟩ = some (.int .i64 r.o) ∧ W.cell? ⟨w.heap.size, 2, none⟩ = some (.int .i64 r.c) ∧ W.cell? ⟨w.heap.size, 3, none⟩ = some (.slice a r.ls.length c)) := Lib.hid fun W hb => by
      have k1 := (hb.block _ (Array.getElem?_eq_some_iff.1 HR1.out).1).trans HR1.out
      exact ⟨by rw [cell_of_row _ _ _ _ _ _ k1]; rfl, by rw [cell_of_row _ _ _ _ _ _ k1]; rfl, by rw [cell_of_row _ _ _ _ _ _ k1]; rfl, by rw [cell_of_row _ _ _ _ _ _ k1]; rfl⟩
    have DVn : Hid ((dumpV r).length ≤ 1000000) := Lib.hid (by
      unfold dumpV
      split
      · have := upTo_length' r r.ls.length ES60.out N60.out
        rw [upTo_all] at this
        omega
      · exact Nat.zero_le _)
    unfold Rv LIs at LI
    obtain ⟨e0, e1, e2, e3⟩ := CE.out w1 (Below.refl _ _)
    clear hF n60 es60
    go_wp2_with fail
    clear e0 e1 e2 e3
    refine LI.out.mono ?_
    rintro e w2 ⟨v, rfl, hgv⟩
    obtain ⟨xa, xc, rfl, _, _, hsr⟩ := strs_all hgv.row
    have B2 : Hid (Below w1.heap.size w1 w2) := Lib.hid hgv.below
    have SX := Lib.hid hsr
    have OF := Lib.hid (of_any r a c w2 (RL1.out.below B2.out) N60.out)
    unfold Rv at OF
    unfold OfL at OF
    obtain ⟨e0, e1, e2, e3⟩ := CE.out w2 B2.out
    clear hgv hsr
    go_wp2_with fail
    clear e0 e1 e2 e3
    refine OF.out.mono ?_
    rintro e w3 ⟨ra, rc, rfl, hrl, hb3⟩
    have B3 : Hid (Below w2.heap.size w2 w3) := Lib.hid hb3
    have RN := Lib.hid (rlines_any r ra rc HW.out N60.out ES60.out w3 hrl)
    unfold LIs at RN
    clear hrl hb3
    go_wp2_with fail
    refine RN.out.mono ?_
    rintro e w4 ⟨v, rfl, hgv⟩
    obtain ⟨ya, yc, rfl, _, _, hsy⟩ := strs_all hgv.row
    have B24 : Hid (Below w2.heap.size w2 w4) := Lib.hid (bgo B3.out (Nat.le_refl _) hgv.below)
    have B14 : Hid (Below w1.heap.size w1 w4) := Lib.hid (bgo B2.out (Nat.le_refl _) B24.out)
    have LS := Lib.hid (lines_same (dumpV r) xa ya xc yc w4 (SX.out.below B24.out) hsy DVn.out)
    clear hgv hsy
    go_wp2_with fail
    refine LS.out.mono ?_
    rintro e w5 ⟨rfl, hb5⟩
    have B15 : Hid (Below w1.heap.size w1 w5) := Lib.hid (bgo B14.out (Nat.le_refl _) hb5)
    have AV := Lib.hid (alive_any w5 (V1.out.below B15.out) (Nat.lt_of_lt_of_le G1.out B15.out.size))
    clear hb5
    go_wp2_with fail
    refine AV.out.mono ?_
    rintro e w6 ⟨rfl, hb6⟩
    have B16 : Hid (Below w1.heap.size w1 w6) := Lib.hid (bgo B15.out (Nat.le_refl _) hb6)
    clear hb6
    go_wp2
    go_ret
    exact ⟨rfl, bgo BW.out (Nat.le_refl _) B16.out⟩
end Pd
end Go.Proofs.YtohoghmdenbcaaaDoor
