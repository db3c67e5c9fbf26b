/- The contract of the statements' same, of two reports that are one. -/
import Derived.Test.YtheldnamllnkeaaDoorDmpOfL
namespace Go.Proofs.YtheldnamllnkeaaDoor
namespace Pd
open Go.RowKit Dsk Go.Maps
set_option maxRecDepth 100000
set_option linter.unusedVariables false

theorem size_rline (x : Ln) (ev : Value) : (Tryd.prog.info? 63).map (·.size) = some (lcells x ev).length := by
  show _ = some 8
  kernel_rfl
theorem two_made (w : World) (r : Rp) (a b : Option Addr) (n c d : Nat) (W0 : World) (h : (w.alloc (.cells #[.int .i64 r.s, .int .i64 r.o, .int .i64 r.c, .slice a n c] 36)).alloc (.cells #[.int .i64 r.s, .int .i64 r.o, .int .i64 r.c, .slice b n d] 36) = W0) :
    Below w.heap.size w W0 ∧ W0.heap.size = w.heap.size + 2 ∧ W0.heap[w.heap.size]? = some (.cells #[.int .i64 r.s, .int .i64 r.o, .int .i64 r.c, .slice a n c] 36 (0, 0)) ∧ W0.heap[w.heap.size + 1]? = some (.cells #[.int .i64 r.s, .int .i64 r.o, .int .i64 r.c, .slice b n d] 36 (0, 0)) := by
  subst h
  generalize (Obj.cells #[.int .i64 r.s, .int .i64 r.o, .int .i64 r.c, .slice a n c] 36) = o1
  generalize (Obj.cells #[.int .i64 r.s, .int .i64 r.o, .int .i64 r.c, .slice b n d] 36) = o2
  have h1 := heap_alloc_new w o1
  have h2 := heap_alloc_new (w.alloc o1) o2
  have hs : (w.alloc o1).heap.size = w.heap.size + 1 := by simp
  rw [hs] at h2
  have hb : Below (w.heap.size + 1) (w.alloc o1) ((w.alloc o1).alloc o2) := (Below.refl _ _).alloc (by simp) _
  exact ⟨((Below.refl _ w).alloc (Nat.le_refl _) _).alloc (by simp) _, by simp, (hb.block _ (by omega)).trans h1, h2⟩
set_option maxHeartbeats 2000000 in
theorem same_yes (r : Rp) (a b : Option Addr) (c d : Nat) (w : World) (hl : RLns w a r.ls) (hl2 : RLns w b r.ls) (hn : r.ls.length ≤ 60) (hes : ∀ x ∈ r.ls, x.es.length ≤ 1000) :
    Calls Tryd.prog 15 #[Rv r a c, Rv r b d] w fun e w' => e = .returned (.bool true) ∧ Below w.heap.size w w' := by
  obtain ⟨n, hnn⟩ : ∃ n, n = r.ls.length := ⟨_, rfl⟩
  have NN := Lib.hid hnn
  obtain ⟨W0, hW0⟩ : ∃ W0, (w.alloc (.cells #[.int .i64 r.s, .int .i64 r.o, .int .i64 r.c, .slice a n c] 36)).alloc (.cells #[.int .i64 r.s, .int .i64 r.o, .int .i64 r.c, .slice b n d] 36) = W0 := ⟨_, rfl⟩
  obtain ⟨hB, hsz, hr0, hr1⟩ := two_made w r a b n c d W0 hW0
  have HB := Lib.hid hB
  have SZ := Lib.hid hsz
  have R1 := Lib.hid hl
  have R2 := Lib.hid hl2
  have HES := Lib.hid hes
  have CE : Hid (∀ W, Below W0.heap.size W0 W → W.cell? ⟨w.heap.size, 3, none⟩ = some (.slice a n c) ∧ W.cell? ⟨w.heap.size + 1, 3, none⟩ = some (.slice b n d)) := Lib.hid fun W hb => ⟨by rw [cell_of_row _ _ _ _ _ _ ((hb.block w.heap.size (by omega)).trans hr0)]; rfl, by rw [cell_of_row _ _ _ _ _ _ ((hb.block (w.heap.size + 1) (by omega)).trans hr1)]; rfl⟩
  have x0 : W0.cell? ⟨w.heap.size, 0, none⟩ = some (.int .i64 r.s) := by rw [cell_of_row _ _ _ _ _ _ hr0]; rfl
  have x1 : W0.cell? ⟨w.heap.size, 1, none⟩ = some (.int .i64 r.o) := by rw [cell_of_row _ _ _ _ _ _ hr0]; rfl
  have x2 : W0.cell? ⟨w.heap.size, 2, none⟩ = some (.int .i64 r.c) := by rw [cell_of_row _ _ _ _ _ _ hr0]; rfl
  have y0 : W0.cell? ⟨w.heap.size + 1, 0, none⟩ = some (.int .i64 r.s) := by rw [cell_of_row _ _ _ _ _ _ hr1]; rfl
  have y1 : W0.cell? ⟨w.heap.size + 1, 1, none⟩ = some (.int .i64 r.o) := by rw [cell_of_row _ _ _ _ _ _ hr1]; rfl
  have y2 : W0.cell? ⟨w.heap.size + 1, 2, none⟩ = some (.int .i64 r.c) := by rw [cell_of_row _ _ _ _ _ _ hr1]; rfl
  obtain ⟨x3, y3⟩ := CE.out W0 (Below.refl _ _)
  have hne : (((n : Nat) : Int) != (n : Int)) = false := by simp
  rw [← hnn] at hn
  unfold Rv
  rw [← hnn]
  clear hl hl2 hes hnn hB hsz hr0 hr1
  go_enter Tryd.func15, Tryd.ntmps15
  go_wp2
  clear hW0 x0 x1 x2 x3 y0 y1 y2 y3 hne
  go_loopw [5] (fun i wr => ∃ k : Nat, k ≤ n ∧ i = .int .i64 k ∧ Hid (Below W0.heap.size W0 wr)) (fun i _ => n - (Lib.intOf i).toNat)
  case atStart => exact ⟨0, Nat.zero_le _, rfl, Lib.hid (Below.refl _ _)⟩
  case round =>
    obtain ⟨k, hk, rfl, hw⟩ := hrel
    have HW : Hid (Below w.heap.size w wr) := Lib.hid (HB.out.trans (hw.out.mono HB.out.size))
    obtain ⟨x3, y3⟩ := CE.out wr hw.out
    by_cases hlt : k < n
    · have hkl : k < r.ls.length := by rw [← NN.out]; exact hlt
      obtain ⟨x, hx⟩ : ∃ x, x = r.ls[k] := ⟨_, rfl⟩
      have HX : Hid (r.ls[k]? = some x) := Lib.hid (by rw [hx]; exact List.getElem?_eq_getElem hkl)
      obtain ⟨ab, ao, ea, ec, rfl, hab, hra, hrea⟩ := R1.out.get HX.out
      obtain ⟨bb, bo, ea2, ec2, rfl, hbb, hrb, hreb⟩ := R2.out.get HX.out
      have HRA := Lib.hid (rangeAt_below hra HW.out hab)
      unfold lcells at HRA hrb
      obtain ⟨WA, hWA⟩ : ∃ WA, wr.alloc (.cells #[.int .i64 x.id, .int .i64 x.st, .int .i64 x.a, .int .i64 x.n, .int .u32 (x.g : Int), .int .i64 x.room, .bool x.inv, .slice ea x.es.length ec] 63) = WA := ⟨_, rfl⟩
      obtain ⟨WB, hWB⟩ : ∃ WB, WA.alloc (.cells #[.int .i64 x.id, .int .i64 x.st, .int .i64 x.a, .int .i64 x.n, .int .u32 (x.g : Int), .int .i64 x.room, .bool x.inv, .slice ea2 x.es.length ec2] 63) = WB := ⟨_, rfl⟩
      have BA : Hid (Below wr.heap.size wr WA) := Lib.hid (by rw [← hWA]; exact (Below.refl _ _).alloc (Nat.le_refl _) _)
      have BBB : Hid (Below WA.heap.size WA WB) := Lib.hid (by rw [← hWB]; exact (Below.refl _ _).alloc (Nat.le_refl _) _)
      have RA : Hid (WA.heap[wr.heap.size]? = some (.cells #[.int .i64 x.id, .int .i64 x.st, .int .i64 x.a, .int .i64 x.n, .int .u32 (x.g : Int), .int .i64 x.room, .bool x.inv, .slice ea x.es.length ec] 63 (0, 0))) := Lib.hid (by rw [← hWA]; exact heap_alloc_new _ _)
      have RB : Hid (WB.heap[WA.heap.size]? = some (.cells #[.int .i64 x.id, .int .i64 x.st, .int .i64 x.a, .int .i64 x.n, .int .u32 (x.g : Int), .int .i64 x.room, .bool x.inv, .slice ea2 x.es.length ec2] 63 (0, 0))) := Lib.hid (by rw [← hWB]; exact heap_alloc_new _ _)
      have RA2 : Hid (WB.heap[wr.heap.size]? = some (.cells #[.int .i64 x.id, .int .i64 x.st, .int .i64 x.a, .int .i64 x.n, .int .u32 (x.g : Int), .int .i64 x.room, .bool x.inv, .slice ea x.es.length ec] 63 (0, 0))) := Lib.hid ((BBB.out.block _ (Array.getElem?_eq_some_iff.1 RA.out).1).trans RA.out)
      have WAw : Hid (Below w.heap.size w WA) := Lib.hid (bgo HW.out (Nat.le_refl _) BA.out)
      have WBw : Hid (Below w.heap.size w WB) := Lib.hid (bgo WAw.out (Nat.le_refl _) BBB.out)
      have WB0 : Hid (Below W0.heap.size W0 WB) := Lib.hid (bgo (bgo hw.out (Nat.le_refl _) BA.out) (Nat.le_refl _) BBB.out)
      have HRB := Lib.hid (rangeAt_below hrb WAw.out hbb)
      have y3a : WA.cell? ⟨w.heap.size + 1, 3, none⟩ = some (.slice (some ⟨bb, bo, none⟩) n d) := (CE.out WA (bgo hw.out (Nat.le_refl _) BA.out)).2
      have acell : ∀ j v, (#[.int .i64 x.id, .int .i64 x.st, .int .i64 x.a, .int .i64 x.n, .int .u32 (x.g : Int), .int .i64 x.room, .bool x.inv, .slice ea x.es.length ec] : Array Value)[j]? = some v → WB.cell? ⟨wr.heap.size, j, none⟩ = some v := fun j v h => by rw [cell_of_row _ _ _ _ _ _ RA2.out]; exact h
      have bcell : ∀ j v, (#[.int .i64 x.id, .int .i64 x.st, .int .i64 x.a, .int .i64 x.n, .int .u32 (x.g : Int), .int .i64 x.room, .bool x.inv, .slice ea2 x.es.length ec2] : Array Value)[j]? = some v → WB.cell? ⟨WA.heap.size, j, none⟩ = some v := fun j v h => by rw [cell_of_row _ _ _ _ _ _ RB.out]; exact h
      have p0 := acell 0 _ rfl
      have q0 := bcell 0 _ rfl
      have p1 := acell 1 _ rfl
      have q1 := bcell 1 _ rfl
      have p2 := acell 2 _ rfl
      have q2 := bcell 2 _ rfl
      have p3 := acell 3 _ rfl
      have q3 := bcell 3 _ rfl
      have p4 := acell 4 _ rfl
      have q4 := bcell 4 _ rfl
      have p5 := acell 5 _ rfl
      have q5 := bcell 5 _ rfl
      have p6 := acell 6 _ rfl
      have q6 := bcell 6 _ rfl
      have p7 := acell 7 _ rfl
      have q7 := bcell 7 _ rfl
      have LES : Hid (x.es.length ≤ 9223372036854775806) := Lib.hid (by have := HES.out x (List.mem_of_getElem? HX.out); omega)
      have ES := Lib.hid (Tb.esame_rows (c := ec) (d := ec2) (hrea.below WBw.out) (hreb.below WBw.out) LES.out)
      have HKN := Lib.hid hlt
      have d1 : decide ((k : Int) < (n : Int)) = true := by simp; omega
      have d1' : decide (k < n) = true := by simp; omega
      have k0 : (0 : Int) ≤ (k : Int) := by omega
      have k1 : (k : Int) < (n : Int) := by omega
      have hw1 : IntKind.i64.wrap ((k : Int) + 1) = ((k + 1 : Nat) : Int) := by rw [IntWalk.i64_in _ (by omega)]; rfl
      have n1 : (x.id != x.id) = false := by simp
      have n2 : (x.room != x.room) = false := by simp
      have n3 : (x.inv != x.inv) = false := by simp
      clear hx hkl hab hbb hra hrb hrea hreb acell bcell
      go_wp2_with (first
        | (refine wpList_load_mid rfl 63 _ rfl ab (ao + k * 8) rfl _ _ HRA.out Tryd.underlying63 rfl (size_rline x (.slice ea x.es.length ec)) ?_)
        | (refine wpList_load_mid rfl 63 _ rfl bb (bo + k * 8) rfl _ _ HRB.out Tryd.underlying63 rfl (size_rline x (.slice ea2 x.es.length ec2)) ?_))
      refine ES.out.mono ?_
      rintro e w5 ⟨rfl, hb5⟩
      have B5 : Hid (Below W0.heap.size W0 w5) := Lib.hid (bgo WB0.out (Nat.le_refl _) hb5)
      clear hb5 hWA hWB
      go_wp2
      go_roundw
      case rel => exact ⟨k + 1, by have := HKN.out; omega, by go_num, B5⟩
      case measure => have := HKN.out; simp [Lib.intOf]; omega
    · obtain rfl : k = n := by omega
      have d1 : decide ((k : Int) < (k : Int)) = false := by simp
      have d1' : decide (k < k) = false := by simp
      go_wp2
      go_ret
      exact ⟨rfl, HW.out⟩
end Pd
end Go.Proofs.YtheldnamllnkeaaDoor
