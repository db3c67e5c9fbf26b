/- The contract of dump's superOf. -/
import Derived.Test.YtheldnamllnkeaaDoorDmpWord
import Derived.Test.YtheldnamllnkeaaDoorDmpStr
import Derived.Test.YtheldnamllnkeaaDoorFour
import Derived.Laws.ResultCell
namespace Go.Proofs.YtheldnamllnkeaaDoor
namespace Pd
open Go.RowKit Dsk
set_option maxRecDepth 100000
set_option linter.unusedVariables false

theorem bfr {B k : Nat} {w a b : World} (h : Below B w a) (hB : B ≤ w.heap.size) (hf : Fr (fun i => i = k) a b) (hk : B ≤ k) : Below B w b := h.trans (hf.below (Nat.le_trans hB h.size) fun i hi => by rw [hi]; exact hk)
/-- What superOf tells. -/
def SupIs (l : List UInt8) (w : World) (e : Ending) (w' : World) : Prop := (∃ a b c : Nat, supP (words l) = some (a, b, c) ∧ e = .returned (.agg #[.int .i64 (a : Int), .int .i64 (b : Int), .int .i64 (c : Int)]) ∧ Below w.heap.size w w') ∨ (supP (words l) = none ∧ e = noE ∧ Below w.heap.size w w')
/-- What is so between two calls. -/
structure Sx (W0 : World) (k : Nat) (ws : List (List UInt8)) (W : World) : Prop where
  bx : Below W0.heap.size W0 W
  wd : Wd W k ws
  vs : Vs W
theorem Sx.call {W0 W W' : World} {k : Nat} {ws ws' : List (List UInt8)} (h : Sx W0 k ws W) (hk : W0.heap.size ≤ k) (hw : Wd W' k ws') (hf : Fr (fun i => i = k) W W') : Sx W0 k ws' W' := ⟨bfr h.bx (Nat.le_refl _) hf hk, hw, vs_fr h.vs hf h.wd.far⟩
theorem Sx.new {W0 W W' : World} {k : Nat} {ws : List (List UInt8)} (h : Sx W0 k ws W) (hb : Below W.heap.size W W') : Sx W0 k ws W' := ⟨bgo h.bx (Nat.le_refl _) hb, h.wd.below hb, h.vs.below hb⟩
theorem sx_ok {W0 W : World} {k n : Nat} {ws : List (List UInt8)} (wd : List UInt8) (h : Sx W0 k ws W) (hk : W0.heap.size ≤ k) (hn : afterP ws wd = some n) :
    Calls Tryd.prog 47 #[.pointer (some ⟨k, 0, none⟩), .string (Om.B wd)] W fun e w' => e = .returned (.int .i64 (n : Int)) ∧ Sx W0 k ws.tail.tail w' :=
  (after_ok wd h.wd h.vs (afterP_some hn).1 (afterP_some hn).2).mono fun e w' ⟨h1, h2, h3⟩ => ⟨h1, h.call hk h2 h3⟩
theorem sx_no {W0 W : World} {k : Nat} {ws : List (List UInt8)} (wd : List UInt8) (h : Sx W0 k ws W) (hk : W0.heap.size ≤ k) (hn : afterP ws wd = none) :
    Calls Tryd.prog 47 #[.pointer (some ⟨k, 0, none⟩), .string (Om.B wd)] W fun e w' => e = .panicked [{ v := .iface 74 (.agg #[]), recovered := false }] ∧ Below W0.heap.size W0 w' :=
  (after_no wd h.wd h.vs (afterP_none hn)).mono fun e w' ⟨h1, h3⟩ => ⟨h1, bfr h.bx (Nat.le_refl _) h3 hk⟩
set_option maxHeartbeats 1000000 in
theorem superof_any (l : List UInt8) (hl : l.length ≤ 4294967295) (w : World) (hv : Vs w) (hg : 0 < w.heap.size) :
    Calls Tryd.prog 35 #[.string (Om.B l)] w (SupIs l w) := by
  obtain ⟨W0, hW0⟩ : ∃ W0, w.alloc (.cells #[.int .i64 0, .int .i64 0, .int .i64 0] 23) = W0 := ⟨_, rfl⟩
  have HB0 : Hid (Below w.heap.size w W0) := Lib.hid (by rw [← hW0]; exact (Below.refl _ w).alloc (Nat.le_refl _) _)
  have HR0 : Hid (W0.heap[w.heap.size]? = some (.cells #[.int .i64 0, .int .i64 0, .int .i64 0] 23 (0, 0))) := Lib.hid (by rw [← hW0]; exact heap_alloc_new w _)
  have HS0 : Hid (w.heap.size < W0.heap.size) := Lib.hid (by rw [← hW0]; simp)
  have WO := Lib.hid (wordsof_any l hl W0 (hv.below HB0.out) (Nat.lt_trans hg HS0.out))
  have HV0 := Lib.hid (hv.below HB0.out)
  obtain ⟨ws, hws⟩ : ∃ ws, ws = words l := ⟨_, rfl⟩
  rw [← hws] at WO
  unfold SupIs
  rw [← hws]
  have FIN : Hid (∀ w', Below W0.heap.size W0 w' → Below w.heap.size w w') := Lib.hid fun w' hb => HB0.out.trans (hb.mono HB0.out.size)
  clear hl hv hg hws
  unfold noE
  go_enter Tryd.func35, Tryd.ntmps35
  go_wp2_with fail
  clear hW0
  refine WO.out.mono ?_
  rintro e w1 ⟨rfl, hw1, hb1⟩
  have X1 : Hid (Sx W0 W0.heap.size ws w1) := Lib.hid ⟨hb1, hw1, HV0.out.below hb1⟩
  clear hw1 hb1
  cases hA : afterP ws wDisk with
  | none =>
    have HA := Lib.hid hA
    clear hA
    go_wp2_with fail
    refine (sx_no wDisk X1.out (Nat.le_refl _) HA.out).mono ?_
    rintro e w2 ⟨rfl, hb⟩
    have HB := Lib.hid hb
    clear hb
    go_wp2
    exact ⟨rfl, .inr ⟨(by unfold supP; rw [HA.out]; rfl), rfl, FIN.out _ HB.out⟩⟩
  | some a =>
    have HA := Lib.hid hA
    clear hA
    go_wp2_with fail
    refine (sx_ok wDisk X1.out (Nat.le_refl _) HA.out).mono ?_
    rintro e w2 ⟨rfl, h2⟩
    have X2 := Lib.hid h2
    clear h2
    cases hC : afterP ws.tail.tail wOrigin with
    | none =>
      have HC := Lib.hid hC
      clear hC
      go_wp2_with fail
      refine (sx_no wOrigin X2.out (Nat.le_refl _) HC.out).mono ?_
      rintro e w3 ⟨rfl, hb⟩
      have HB := Lib.hid hb
      clear hb
      go_wp2
      exact ⟨rfl, .inr ⟨(by unfold supP; rw [HA.out, Option.bind_some, HC.out]; rfl), rfl, FIN.out _ HB.out⟩⟩
    | some b =>
      have HC := Lib.hid hC
      clear hC
      go_wp2_with fail
      refine (sx_ok wOrigin X2.out (Nat.le_refl _) HC.out).mono ?_
      rintro e w3 ⟨rfl, h3⟩
      have X3 := Lib.hid h3
      clear h3
      cases hD : afterP ws.tail.tail.tail.tail wChunk with
      | none =>
        have HD := Lib.hid hD
        clear hD
        go_wp2_with fail
        refine (sx_no wChunk X3.out (Nat.le_refl _) HD.out).mono ?_
        rintro e w4 ⟨rfl, hb⟩
        have HB := Lib.hid hb
        clear hb
        go_wp2
        exact ⟨rfl, .inr ⟨(by unfold supP; rw [HA.out, Option.bind_some, HC.out, Option.bind_some, HD.out]; rfl), rfl, FIN.out _ HB.out⟩⟩
      | some c =>
        have HD := Lib.hid hD
        clear hD
        go_wp2_with fail
        refine (sx_ok wChunk X3.out (Nat.le_refl _) HD.out).mono ?_
        rintro e w4 ⟨rfl, h4⟩
        obtain ⟨W5, hW5⟩ : ∃ W5, w4.alloc (.cells #[.int .i64 (a : Int), .int .i64 (b : Int), .int .i64 (c : Int)] 23) = W5 := ⟨_, rfl⟩
        have hB5 : Below w4.heap.size w4 W5 := by rw [← hW5]; exact (Below.refl _ _).alloc (Nat.le_refl _) _
        have R5 : Hid (W5.heap[w4.heap.size]? = some (.cells #[.int .i64 (a : Int), .int .i64 (b : Int), .int .i64 (c : Int)] 23 (0, 0))) := Lib.hid (by rw [← hW5]; exact heap_alloc_new _ _)
        have X5 := Lib.hid (h4.new hB5)
        clear h4 hB5
        obtain ⟨x0, hx0⟩ : ∃ x0, x0 = (a : Int) := ⟨_, rfl⟩
        obtain ⟨x1, hx1⟩ : ∃ x1, x1 = (b : Int) := ⟨_, rfl⟩
        obtain ⟨x2, hx2⟩ : ∃ x2, x2 = (c : Int) := ⟨_, rfl⟩
        by_cases hE : ws.tail.tail.tail.tail.tail.tail = []
        · have HE := Lib.hid hE
          have EY := Lib.hid (fun w1 (h : Wd w1 W0.heap.size ws.tail.tail.tail.tail.tail.tail) => end_yes (by rw [HE.out] at h; exact h))
          clear hE
          go_wp2_with fail
          clear hW5
          refine (EY.out _ X5.out.wd).mono ?_
          rintro e w6 ⟨rfl, rfl⟩
          have R0 := Lib.hid ((X5.out.bx.block w.heap.size HS0.out).trans HR0.out)
          have r0 : W5.cell? ⟨w4.heap.size, 0, none⟩ = some (.int .i64 (a : Int)) := by rw [cell_of_row _ _ _ _ _ _ R5.out]; rfl
          have r1 : W5.cell? ⟨w4.heap.size, 1, none⟩ = some (.int .i64 (b : Int)) := by rw [cell_of_row _ _ _ _ _ _ R5.out]; rfl
          have r2 : W5.cell? ⟨w4.heap.size, 2, none⟩ = some (.int .i64 (c : Int)) := by rw [cell_of_row _ _ _ _ _ _ R5.out]; rfl
          have z0 : W5.cell? ⟨w.heap.size, 0, none⟩ = some (.int .i64 0) := by rw [cell_of_row _ _ _ _ _ _ R0.out]; rfl
          have z1 : W5.cell? ⟨w.heap.size, 1, none⟩ = some (.int .i64 0) := by rw [cell_of_row _ _ _ _ _ _ R0.out]; rfl
          have z2 : W5.cell? ⟨w.heap.size, 2, none⟩ = some (.int .i64 0) := by rw [cell_of_row _ _ _ _ _ _ R0.out]; rfl
          have zf : ∀ j, W5.frozen? ⟨w.heap.size, j, none⟩ = false := fun j => frozen_of_row (j := j) _ _ _ _ R0.out
          have hi : (Tryd.prog.info? 23).map (·.size) = some (#[.int .i64 (a : Int), .int .i64 (b : Int), .int .i64 (c : Int)] : Array Value).size := by kernel_rfl
          go_wp2_with fail
          refine bodyPost_ret (results_cell_row (p := 2) (ty := 23) rfl _ _ w.heap.size 23 _ (0, 0) _ rfl (three_set R0.out _ _ _) Tryd.underlying23 rfl hi) rfl (.inl ⟨a, b, c, ?_, rfl, below_three (HB0.out.trans (X5.out.bx.mono HB0.out.size)) (Nat.le_refl _) _ _ _⟩)
          unfold supP
          rw [HA.out, Option.bind_some, HC.out, Option.bind_some, HD.out, Option.bind_some, if_pos HE.out]
        · have EN := Lib.hid (fun w1 (h : Wd w1 W0.heap.size ws.tail.tail.tail.tail.tail.tail) => end_no h hE)
          unfold noE at EN
          have HE := Lib.hid hE
          clear hE
          go_wp2_with fail
          clear hW5
          refine (EN.out _ X5.out.wd).mono ?_
          rintro e w6 ⟨rfl, rfl⟩
          go_wp2
          exact ⟨rfl, .inr ⟨(by unfold supP; rw [HA.out, Option.bind_some, HC.out, Option.bind_some, HD.out, Option.bind_some, if_neg HE.out]), rfl, FIN.out _ X5.out.bx⟩⟩
end Pd
end Go.Proofs.YtheldnamllnkeaaDoor
