/- The contract of the statements' live question. -/
import Derived.Test.YtheldnamllnkeaaDoorDmpSame
import Derived.Test.YtheldnamllnkeaaDoorDmpLaw
import Derived.Test.YtheldnamllnkeaaDoorDmpBack
import Derived.BigQuiet
namespace Go.Proofs.YtheldnamllnkeaaDoor
namespace Pd
open Go.RowKit Dsk Go.Maps
set_option maxRecDepth 100000
set_option linter.unusedVariables false

/-- The report that the live question asks of. -/
def x0 : Ln := ⟨1, 2, 25, 10, 3, 4, false, [(2, 1)]⟩
def r0 : Rp := ⟨60, 8, 2, [x0]⟩
def y0 : List UInt8 := [100, 105, 115, 107, 32, 54, 48, 32, 111, 114, 105, 103, 105, 110, 32, 56, 32, 99, 104, 117, 110, 107, 32, 50]
def y1 : List UInt8 := [115, 108, 111, 116, 32, 49, 32, 109, 101, 114, 103, 105, 110, 103, 32, 50, 53, 32, 49, 48, 32, 103, 101, 110, 32, 51, 32, 114, 111, 111, 109, 32, 52]
def y2 : List UInt8 := [101, 110, 116, 114, 121, 32, 50, 32, 49]
def y3 : List UInt8 := [100, 105, 115, 107, 32, 54, 48]
theorem ok_r0 : okR r0 = true := by decide
theorem fig1 (n : Nat) (h : n < 10) : fig (n : Int) = [UInt8.ofNat (48 + n)] := Lib.decDigits_one h
theorem fig_60 : fig 60 = [54, 48] := by
  show Lib.decDigits 60 = _
  rw [Lib.decDigits_two (by omega) (by omega)]
  rfl
theorem fig_25 : fig 25 = [50, 53] := by
  show Lib.decDigits 25 = _
  rw [Lib.decDigits_two (by omega) (by omega)]
  rfl
theorem fig_10 : fig 10 = [49, 48] := by
  show Lib.decDigits 10 = _
  rw [Lib.decDigits_two (by omega) (by omega)]
  rfl
theorem dump_r0 : dump r0 = [y0, y1, y2] := by
  show [line [wDisk, fig 60, wOrigin, fig (8 : Nat), wChunk, fig (2 : Nat)], line [wSlot, fig (1 : Nat), wMerging, fig 25, fig 10, wGen, fig (3 : Nat), wRoom, fig (4 : Nat)], line [wEntry, fig (2 : Nat), fig (1 : Nat)]] = _
  rw [fig_60, fig_25, fig_10, fig1 8 (by omega), fig1 2 (by omega), fig1 1 (by omega), fig1 3 (by omega), fig1 4 (by omega)]
  rfl
theorem parse_r0 : parse [y0, y1, y2] = some r0 := by
  rw [← dump_r0]
  exact parse_dump ok_r0 fun x hx => by rw [List.mem_singleton.1 hx]; decide
theorem parse_y3 : parse [y3] = none := by
  have h : supP (words y3) = none := by
    show supP [wDisk, [54, 48]] = none
    unfold supP
    cases afterP [wDisk, [54, 48]] wDisk <;> rfl
  show (supP (words y3)).bind _ = none
  rw [h]
  rfl
theorem wr_r0 : Wr r0 := ⟨by decide, by decide, by decide, fun x hx => by
  rw [List.mem_singleton.1 hx]
  exact ⟨by constructor <;> decide, fun e he => by rw [List.mem_singleton.1 he]; decide⟩⟩
theorem strs_all {w : World} {v : Value} {l : List (List UInt8)} (h : Strs w v l) : ∃ a c, v = .slice a l.length c ∧ l.length ≤ c ∧ c ≤ 9223372036854775807 ∧ SRow w a l := by
  rcases h.2 with ⟨h1, h2⟩ | ⟨g, cap, cur, hv, _, hh, hc, hm, _⟩
  · have hl := List.eq_nil_of_length_eq_zero h2
    subst hl
    exact ⟨none, 0, h1, Nat.le_refl _, by omega, fun hn => absurd rfl hn⟩
  · refine ⟨_, cap, hv, hc, by unfold maxLen at hm; omega, fun hn => ?_⟩
    obtain ⟨g2, c2, e2, hlt, _, hcells⟩ := strs_at h hn
    rw [hv] at e2
    injection e2 with e3 _ _
    injection e3 with e3
    injection e3 with e3
    subst e3
    exact ⟨g, 0, rfl, hlt, hcells⟩
theorem al_made (w W0 : World) (h : ((w.alloc (.cells #[.int .i64 2, .int .i64 1] 56)).alloc (.cells #[.int .i64 1, .int .i64 2, .int .i64 25, .int .i64 10, .int .u32 3, .int .i64 4, .bool false, .slice (some ⟨w.heap.size, 0, none⟩) 1 1] 54)).alloc (.cells #[.int .i64 60, .int .i64 8, .int .i64 2, .slice (some ⟨w.heap.size + 1, 0, none⟩) 1 1] 26) = W0) :
    RLns W0 (some ⟨w.heap.size + 1, 0, none⟩) r0.ls ∧ W0.heap[w.heap.size + 1]? = some (.cells #[.int .i64 1, .int .i64 2, .int .i64 25, .int .i64 10, .int .u32 3, .int .i64 4, .bool false, .slice (some ⟨w.heap.size, 0, none⟩) 1 1] 54 (0, 0)) ∧
    W0.heap[w.heap.size + 1 + 1]? = some (.cells #[.int .i64 60, .int .i64 8, .int .i64 2, .slice (some ⟨w.heap.size + 1, 0, none⟩) 1 1] 26 (0, 0)) ∧ Below w.heap.size w W0 ∧ W0.heap.size = w.heap.size + 3 := by
  generalize ho1 : (Obj.cells #[.int .i64 2, .int .i64 1] 56) = o1 at h
  generalize ho2 : (Obj.cells #[.int .i64 1, .int .i64 2, .int .i64 25, .int .i64 10, .int .u32 3, .int .i64 4, .bool false, .slice (some ⟨w.heap.size, 0, none⟩) 1 1] 54) = o2 at h ⊢
  generalize ho3 : (Obj.cells #[.int .i64 60, .int .i64 8, .int .i64 2, .slice (some ⟨w.heap.size + 1, 0, none⟩) 1 1] 26) = o3 at h ⊢
  subst h
  have h1 := heap_alloc_new w o1
  have h2 := heap_alloc_new (w.alloc o1) o2
  have h3 := heap_alloc_new ((w.alloc o1).alloc o2) o3
  have s1 : (w.alloc o1).heap.size = w.heap.size + 1 := by simp
  have s2 : ((w.alloc o1).alloc o2).heap.size = w.heap.size + 1 + 1 := by simp
  rw [s1] at h2
  rw [s2] at h3
  have b1 : Below (w.heap.size + 1) (w.alloc o1) ((w.alloc o1).alloc o2) := (Below.refl _ _).alloc (by simp) _
  have b2 : Below (w.heap.size + 1 + 1) ((w.alloc o1).alloc o2) (((w.alloc o1).alloc o2).alloc o3) := (Below.refl _ _).alloc (by simp) _
  have g1 := (b2.block w.heap.size (by omega)).trans ((b1.block w.heap.size (by omega)).trans h1)
  have g2 := (b2.block (w.heap.size + 1) (by omega)).trans h2
  refine ⟨fun _ => ⟨w.heap.size + 1, 0, rfl, by simp, fun i x hx => ?_⟩, g2, h3, (((Below.refl _ w).alloc (Nat.le_refl _) _).alloc (by simp) _).alloc (by simp; omega) _, by simp⟩
  have hi : i = 0 ∧ x = x0 := by
    cases i with
    | zero => exact ⟨rfl, by injection hx with e; exact e.symm⟩
    | succ i => simp [r0] at hx
  obtain ⟨rfl, rfl⟩ := hi
  refine ⟨some ⟨w.heap.size, 0, none⟩, 1, fun j v hv => ?_, fun _ => ⟨w.heap.size, 0, rfl, by simp; omega, fun k e he => ?_⟩⟩
  · subst ho2
    rw [cell_of_row _ _ _ _ _ _ g2, show 0 + 0 * 8 + j = j from by omega]
    have hv2 : [Value.int .i64 1, .int .i64 2, .int .i64 25, .int .i64 10, .int .u32 3, .int .i64 4, .bool false, .slice (some ⟨w.heap.size, 0, none⟩) 1 1][j]? = some v := hv
    simpa using hv2
  · subst ho1
    have hk : k = 0 ∧ e = (2, 1) := by
      cases k with
      | zero => exact ⟨rfl, by injection he with e; exact e.symm⟩
      | succ i => simp [x0] at he
    obtain ⟨rfl, rfl⟩ := hk
    constructor
    · rw [cell_of_row _ _ _ _ _ _ g1]; rfl
    · rw [cell_of_row _ _ _ _ _ _ g1]; rfl
/-- A row of one line, in the world's cells. -/
theorem rows_one {W : World} {B c : Nat} {a : Option Addr} {x : Ln} {evs : List Value} (h : Rows W B (.slice a [x].length c) [x] evs) : ∃ g ev, a = some ⟨g, 0, none⟩ ∧ g < W.heap.size ∧ 1 ≤ c ∧ ∀ j v, (lcells x ev)[j]? = some v → W.cell? ⟨g, j, none⟩ = some v := by
  obtain ⟨b, off, hb, hlt, hc⟩ := h.rlns (by simp)
  obtain ⟨ea, ec, hr, _⟩ := hc 0 x rfl
  rcases h.row.2 with ⟨h1, h2⟩ | ⟨g, cap, cur, hv, _, hh, hcap, _⟩
  · simp at h2
  · injection hv with e1 _ e3
    subst e3
    rw [e1] at hb
    injection hb with hb
    injection hb with hb1 hb2
    subst hb1
    subst hb2
    exact ⟨g, _, e1, hlt, hcap, fun j v hj => by have := hr j v hj; simpa using this⟩
set_option maxHeartbeats 1000000 in
theorem alive_any (w : World) (hv : Vs w) (hg : 0 < w.heap.size) : Calls Tryd.prog 7 #[] w fun e w' => e = .returned (.bool true) ∧ Below w.heap.size w w' := by
  obtain ⟨W0, hW0⟩ : ∃ W0, ((w.alloc (.cells #[.int .i64 2, .int .i64 1] 56)).alloc (.cells #[.int .i64 1, .int .i64 2, .int .i64 25, .int .i64 10, .int .u32 3, .int .i64 4, .bool false, .slice (some ⟨w.heap.size, 0, none⟩) 1 1] 54)).alloc (.cells #[.int .i64 60, .int .i64 8, .int .i64 2, .slice (some ⟨w.heap.size + 1, 0, none⟩) 1 1] 26) = W0 := ⟨_, rfl⟩
  obtain ⟨RL, RA, RB, hb0, hs0⟩ := al_made w W0 hW0
  have BW : Hid (Below w.heap.size w W0) := Lib.hid hb0
  have V0 := Lib.hid (hv.below hb0)
  have G0 : Hid (0 < W0.heap.size) := Lib.hid (Nat.lt_of_lt_of_le hg hb0.size)
  have LI := Lib.hid (lines_any r0 (some ⟨w.heap.size + 1, 0, none⟩) 1 wr_r0 (by decide) (fun x hx => by rw [List.mem_singleton.1 hx]; decide) W0 V0.out RL)
  have HA := Lib.hid RA
  have HB := Lib.hid RB
  have S0 := Lib.hid hs0
  have e0 : W0.cell? ⟨w.heap.size + 1 + 1, 0, none⟩ = some (.int .i64 60) := by rw [cell_of_row _ _ _ _ _ _ RB]; rfl
  have e1 : W0.cell? ⟨w.heap.size + 1 + 1, 1, none⟩ = some (.int .i64 8) := by rw [cell_of_row _ _ _ _ _ _ RB]; rfl
  have e2 : W0.cell? ⟨w.heap.size + 1 + 1, 2, none⟩ = some (.int .i64 2) := by rw [cell_of_row _ _ _ _ _ _ RB]; rfl
  have e3 : W0.cell? ⟨w.heap.size + 1 + 1, 3, none⟩ = some (.slice (some ⟨w.heap.size + 1, 0, none⟩) 1 1) := by rw [cell_of_row _ _ _ _ _ _ RB]; rfl
  clear hv hg RL RA RB hb0 hs0
  go_enter Tryd.func7, Tryd.ntmps7
  go_wp2_with fail
  refine LI.out.mono ?_
  rintro e w1 ⟨v, rfl, hgv⟩
  rw [(dumpE_ok ok_r0).1]
  rw [(dumpE_ok ok_r0).2, dump_r0] at hgv
  obtain ⟨a, c, rfl, hc, hcc, hsr⟩ := strs_all hgv.row
  obtain ⟨g, off, rfl, hlt, hcells⟩ := hsr (by simp)
  have CE := Lib.hid hcells
  have B1 := Lib.hid hgv.below
  have G1 := Lib.hid hlt
  have PA := Lib.hid (parse_any [y0, y1, y2] (some ⟨g, off, none⟩) c w1 (V0.out.below B1.out) (Nat.lt_of_lt_of_le G0.out B1.out.size) hc hcc (fun x hx => by simp only [List.mem_cons, List.not_mem_nil, or_false] at hx; rcases hx with rfl | rfl | rfl <;> decide) (by decide) (fun _ => ⟨g, off, rfl, hlt, hcells⟩))
  have HC := Lib.hid hc
  clear hgv hc hcc hsr hlt hcells hW0 e0 e1 e2 e3
  go_wp2_with fail
  refine PA.out.mono ?_
  rintro e w2 ⟨ra, rc, evs, rfl, hrows, hb2⟩
  rw [show parseE [y0, y1, y2] = 0 from by unfold parseE; rw [parse_r0]; rfl]
  rw [show parseV [y0, y1, y2] = r0 from by unfold parseV; rw [parse_r0]; rfl] at hrows ⊢
  obtain ⟨rg, ev, rfl, hrg, hrc, hrcells⟩ := rows_one hrows
  have RC := Lib.hid hrcells
  have B2 := Lib.hid hb2
  have GR := Lib.hid hrg
  clear hrows hb2 hrg hrcells
  rw [show Rv r0 (some ⟨rg, 0, none⟩) rc = .agg #[.int .i64 60, .int .i64 8, .int .i64 2, .slice (some ⟨rg, 0, none⟩) 1 rc] from rfl]
  obtain ⟨W4, hW4⟩ : ∃ W4, (w2.alloc (.cells #[.int .i64 60, .int .i64 8, .int .i64 2, .slice (some ⟨rg, 0, none⟩) 1 rc] 26)).alloc (.cells #[.string ⟨#[100, 105, 115, 107, 32, 54, 48]⟩] 9) = W4 := ⟨_, rfl⟩
  have s3 : (w2.alloc (.cells #[.int .i64 60, .int .i64 8, .int .i64 2, .slice (some ⟨rg, 0, none⟩) 1 rc] 26)).heap.size = w2.heap.size + 1 := by simp
  have B4 : Hid (Below w2.heap.size w2 W4) := Lib.hid (by rw [← hW4]; exact ((Below.refl _ _).alloc (Nat.le_refl _) _).alloc (by simp) _)
  have R4 : Hid (W4.heap[w2.heap.size]? = some (.cells #[.int .i64 60, .int .i64 8, .int .i64 2, .slice (some ⟨rg, 0, none⟩) 1 rc] 26 (0, 0))) := Lib.hid (by
    rw [← hW4]
    exact ((Below.refl (w2.heap.size + 1) (w2.alloc (.cells #[.int .i64 60, .int .i64 8, .int .i64 2, .slice (some ⟨rg, 0, none⟩) 1 rc] 26))).alloc (by simp) _).block _ (by omega) |>.trans (heap_alloc_new w2 _))
  have T4 : W4.heap[w2.heap.size + 1]? = some (.cells #[.string ⟨#[100, 105, 115, 107, 32, 54, 48]⟩] 9 (0, 0)) := by
    rw [← hW4, ← s3]
    exact heap_alloc_new _ _
  have BW4 : Hid (Below W0.heap.size W0 W4) := Lib.hid (bgo (bgo B1.out (Nat.le_refl _) B2.out) (Nat.le_refl _) B4.out)
  have PB := Lib.hid (parse_any [y3] (some ⟨w2.heap.size + 1, 0, none⟩) 1 W4 (V0.out.below BW4.out) (Nat.lt_of_lt_of_le G0.out BW4.out.size) (Nat.le_refl _) (by omega) (fun x hx => by rw [List.mem_singleton.1 hx]; decide) (by decide) (fun _ => ⟨w2.heap.size + 1, 0, rfl, (Array.getElem?_eq_some_iff.1 T4).1, fun i x hx => by
    have hi : i = 0 ∧ x = y3 := by
      cases i with
      | zero => exact ⟨rfl, by injection hx with e; exact e.symm⟩
      | succ i => simp at hx
    obtain ⟨rfl, rfl⟩ := hi
    rw [cell_of_row _ _ _ _ _ _ T4]
    rfl⟩))
  clear T4 s3
  go_wp2_with fail
  refine PB.out.mono ?_
  rintro e w5 ⟨na, nc, nevs, rfl, _, hb5⟩
  rw [show parseE [y3] = 32 from by unfold parseE; rw [parse_y3]; rfl]
  rw [show parseV [y3] = none0 from by unfold parseV; rw [parse_y3]; rfl]
  rw [show Rv none0 na nc = .agg #[.int .i64 0, .int .i64 0, .int .i64 0, .slice na 0 nc] from rfl]
  obtain ⟨W6, hW6⟩ : ∃ W6, w5.alloc (.cells #[.int .i64 0, .int .i64 0, .int .i64 0, .slice na 0 nc] 26) = W6 := ⟨_, rfl⟩
  have B6 : Hid (Below W4.heap.size W4 W6) := Lib.hid (by rw [← hW6]; exact bgo hb5 (Nat.le_refl _) ((Below.refl _ _).alloc (Nat.le_refl _) _))
  have B26 : Hid (Below w2.heap.size w2 W6) := Lib.hid (bgo B4.out (Nat.le_refl _) B6.out)
  have B16 : Hid (Below w1.heap.size w1 W6) := Lib.hid (bgo B2.out (Nat.le_refl _) B26.out)
  have B06 : Hid (Below W0.heap.size W0 W6) := Lib.hid (bgo B1.out (Nat.le_refl _) B16.out)
  have R6 : Hid (W6.heap[w2.heap.size]? = some (.cells #[.int .i64 60, .int .i64 8, .int .i64 2, .slice (some ⟨rg, 0, none⟩) 1 rc] 26 (0, 0))) := Lib.hid ((B6.out.block _ (Array.getElem?_eq_some_iff.1 R4.out).1).trans R4.out)
  have HA6 := Lib.hid ((B06.out.block _ (Array.getElem?_eq_some_iff.1 HA.out).1).trans HA.out)
  have HB6 := Lib.hid ((B06.out.block _ (Array.getElem?_eq_some_iff.1 HB.out).1).trans HB.out)
  have m3 : W6.cell? ⟨w2.heap.size, 3, none⟩ = some (.slice (some ⟨rg, 0, none⟩) 1 rc) := by rw [cell_of_row _ _ _ _ _ _ R6.out]; rfl
  have n3 : W6.cell? ⟨w.heap.size + 1 + 1, 3, none⟩ = some (.slice (some ⟨w.heap.size + 1, 0, none⟩) 1 1) := by rw [cell_of_row _ _ _ _ _ _ HB6.out]; rfl
  have sc : ∀ i x, [y0, y1, y2][i]? = some x → W6.cell? ⟨g, off + i, none⟩ = some (.string (Om.B x)) := fun i x hx => (B16.out.cell (p := ⟨g, off + i, none⟩) G1.out).trans (CE.out i x hx)
  have q0 : W6.cell? ⟨g, off, none⟩ = some (.string (Om.B y0)) := sc 0 y0 rfl
  have q1 : W6.cell? ⟨g, off + 1, none⟩ = some (.string (Om.B y1)) := sc 1 y1 rfl
  have q2 : W6.cell? ⟨g, off + 2, none⟩ = some (.string (Om.B y2)) := sc 2 y2 rfl
  have rcell : ∀ j v, (lcells x0 ev)[j]? = some v → W6.cell? ⟨rg, j, none⟩ = some v := fun j v hj => (B26.out.cell (p := ⟨rg, j, none⟩) GR.out).trans (RC.out j v hj)
  have r1 : W6.cell? ⟨rg, 1, none⟩ = some (.int .i64 2) := rcell 1 _ rfl
  have r2 : W6.cell? ⟨rg, 2, none⟩ = some (.int .i64 25) := rcell 2 _ rfl
  have r3 : W6.cell? ⟨rg, 3, none⟩ = some (.int .i64 10) := rcell 3 _ rfl
  have r4 : W6.cell? ⟨rg, 4, none⟩ = some (.int .u32 3) := rcell 4 _ rfl
  have a1 : W6.cell? ⟨w.heap.size + 1, 1, none⟩ = some (.int .i64 2) := by rw [cell_of_row _ _ _ _ _ _ HA6.out]; rfl
  have a2 : W6.cell? ⟨w.heap.size + 1, 2, none⟩ = some (.int .i64 25) := by rw [cell_of_row _ _ _ _ _ _ HA6.out]; rfl
  have a3 : W6.cell? ⟨w.heap.size + 1, 3, none⟩ = some (.int .i64 10) := by rw [cell_of_row _ _ _ _ _ _ HA6.out]; rfl
  have a4 : W6.cell? ⟨w.heap.size + 1, 4, none⟩ = some (.int .u32 3) := by rw [cell_of_row _ _ _ _ _ _ HA6.out]; rfl
  obtain ⟨z0, hz0⟩ : ∃ z, z = Om.B y0 := ⟨_, rfl⟩
  obtain ⟨z1, hz1⟩ : ∃ z, z = Om.B y1 := ⟨_, rfl⟩
  obtain ⟨z2, hz2⟩ : ∃ z, z = Om.B y2 := ⟨_, rfl⟩
  have t0 : (z0.toList == [100, 105, 115, 107, 32, 54, 48, 32, 111, 114, 105, 103, 105, 110, 32, 56, 32, 99, 104, 117, 110, 107, 32, 50]) = true := by rw [hz0]; exact b_is rfl
  have t1 : (z1.toList == [115, 108, 111, 116, 32, 49, 32, 109, 101, 114, 103, 105, 110, 103, 32, 50, 53, 32, 49, 48, 32, 103, 101, 110, 32, 51, 32, 114, 111, 111, 109, 32, 52]) = true := by rw [hz1]; exact b_is rfl
  have t2 : (z2.toList == [101, 110, 116, 114, 121, 32, 50, 32, 49]) = true := by rw [hz2]; exact b_is rfl
  rw [← hz0] at q0
  rw [← hz1] at q1
  rw [← hz2] at q2
  clear hz0 hz1 hz2 sc rcell hb5 hW4
  have BF : Hid (Below w.heap.size w W6) := Lib.hid (bgo BW.out (Nat.le_refl _) B06.out)
  go_wp2_with fail
  clear hW6
  go_quiet (fail)
  go_wp2
  go_ret
  exact ⟨rfl, by first | exact below_drewN BF.out _ | exact BF.out⟩
end Pd
end Go.Proofs.YtheldnamllnkeaaDoor
