/- The contract of dump's Parse, whole. -/
import Derived.Test.YtheldnamllnkeaaDoorDmpPar
import Derived.Test.YtheldnamllnkeaaDoorDmpLines
namespace Go.Proofs.YtheldnamllnkeaaDoor
namespace Pd
open Go.RowKit Dsk
set_option maxRecDepth 100000
set_option linter.unusedVariables false

/-- The memory of the call that recovers. -/
structure Tr (B : Nat) (W : World) : Prop where
  q : W.heap[B]? = some (.cells #[.int .i64 32] 30 (0, 0))
  r : W.heap[B + 1]? = some (.cells #[.int .i64 0, .int .i64 0, .int .i64 0, .slice none 0 0] 26 (0, 0))
  p : W.heap[B + 2]? = some (.cells #[.int .i64 0] 30 (0, 0))
theorem Tr.below {B : Nat} {W W' : World} (h : Tr B W) (hb : Below (B + 3) W W') : Tr B W' := ⟨(hb.block B (by omega)).trans h.q, (hb.block (B + 1) (by omega)).trans h.r, (hb.block (B + 2) (by omega)).trans h.p⟩
theorem tr_made (w W0 : World) (h : ((w.alloc (.cells #[.int .i64 32] 30)).alloc (.cells #[.int .i64 0, .int .i64 0, .int .i64 0, .slice none 0 0] 26)).alloc (.cells #[.int .i64 0] 30) = W0) : Tr w.heap.size W0 ∧ Below w.heap.size w W0 ∧ W0.heap.size = w.heap.size + 3 := by
  obtain ⟨o1, ho1⟩ : ∃ o, o = Obj.cells #[.int .i64 32] 30 := ⟨_, rfl⟩
  obtain ⟨o2, ho2⟩ : ∃ o, o = Obj.cells #[.int .i64 0, .int .i64 0, .int .i64 0, .slice none 0 0] 26 := ⟨_, rfl⟩
  obtain ⟨o3, ho3⟩ : ∃ o, o = Obj.cells #[.int .i64 0] 30 := ⟨_, rfl⟩
  rw [← ho1, ← ho2, ← ho3] at h
  subst h
  have s1 : (w.alloc o1).heap.size = w.heap.size + 1 := by simp
  have s2 : ((w.alloc o1).alloc o2).heap.size = w.heap.size + 2 := by simp
  have h1 := heap_alloc_new w o1
  have h2 := heap_alloc_new (w.alloc o1) o2
  have h3 := heap_alloc_new ((w.alloc o1).alloc o2) o3
  rw [s1] at h2
  rw [s2] at h3
  have b2 : Below (w.heap.size + 1) (w.alloc o1) ((w.alloc o1).alloc o2) := (Below.refl _ _).alloc (by simp) _
  have b3 : Below (w.heap.size + 2) ((w.alloc o1).alloc o2) (((w.alloc o1).alloc o2).alloc o3) := (Below.refl _ _).alloc (by simp) _
  refine ⟨⟨?_, ?_, ?_⟩, (((Below.refl _ w).alloc (Nat.le_refl _) _).alloc (by simp) _).alloc (by simp; omega) _, by simp⟩
  · rw [← ho1]; exact (b3.block _ (by omega)).trans ((b2.block _ (by omega)).trans h1)
  · rw [← ho2]; exact (b3.block _ (by omega)).trans h2
  · rw [← ho3]; exact h3
theorem results_rep_err {fn : Func} {p u : Tmp} (h : fn.results = #[.cell p 26, .cell u 30]) (tmps : Array Value) (w : World) (g k : Nat) (x0 x1 x2 x3 v : Value)
    (hp : tmps.getD p undef = .pointer (some ⟨g, 0, none⟩)) (hu : tmps.getD u undef = .pointer (some ⟨k, 0, none⟩)) (hg : w.heap[g]? = some (.cells #[x0, x1, x2, x3] 26 (0, 0))) (hk : w.cell? ⟨k, 0, none⟩ = some v) :
    (results fn tmps).run Tryd.prog w = .ok (.tuple #[.agg #[x0, x1, x2, x3], v]) w := by
  have hp' : tmps[p]?.getD undef = .pointer (some ⟨g, 0, none⟩) := by simpa using hp
  have hu' : tmps[u]?.getD undef = .pointer (some ⟨k, 0, none⟩) := by simpa using hu
  have c0 : w.cell? ⟨g, 0, none⟩ = some x0 := by rw [cell_of_row _ _ _ _ _ _ hg]; rfl
  have c1 : w.cell? ⟨g, 1, none⟩ = some x1 := by rw [cell_of_row _ _ _ _ _ _ hg]; rfl
  have c2 : w.cell? ⟨g, 2, none⟩ = some x2 := by rw [cell_of_row _ _ _ _ _ _ hg]; rfl
  have c3 : w.cell? ⟨g, 3, none⟩ = some x3 := by rw [cell_of_row _ _ _ _ _ _ hg]; rfl
  simp [results, h, hp', hu', asAddr, Result.andThen, go_sem, c0, c1, c2, c3, hk]
theorem results_rep_tmp {fn : Func} {p u : Tmp} (h : fn.results = #[.cell p 26, .tmp u]) (tmps : Array Value) (w : World) (g : Nat) (x0 x1 x2 x3 v : Value)
    (hp : tmps.getD p undef = .pointer (some ⟨g, 0, none⟩)) (hu : tmps.getD u undef = v) (hg : w.heap[g]? = some (.cells #[x0, x1, x2, x3] 26 (0, 0))) :
    (results fn tmps).run Tryd.prog w = .ok (.tuple #[.agg #[x0, x1, x2, x3], v]) w := by
  have hi : (Tryd.prog.info? 26).map (·.size) = some (#[x0, x1, x2, x3] : Array Value).size := size_rep
  rw [results_cell_tmp h, hp, hu]
  simp [asAddr, run_loadVar_row w g 26 26 #[x0, x1, x2, x3] (0, 0) _ hg Tryd.underlying26 rfl hi, Result.andThen]
set_option maxHeartbeats 1000000 in
theorem tryR_any (l : List (List UInt8)) (k : Nat) (w : World) (hc : ∀ w1, Below w.heap.size w w1 → Calls Tryd.prog 23 #[.pointer (some ⟨k, 0, none⟩)] w1 (RepIs l w1)) :
    Calls Tryd.prog 22 #[.func (.func 23) #[] #[.pointer (some ⟨k, 0, none⟩)], .int .i64 32] w (PIs l w) := by
  have hmf : ∀ (fn : Fn) (first cap : Array Value) (w : World), (Instr.makeFunc fn first cap).run Tryd.prog w = .ok (.func fn first cap) w := fun _ _ _ _ => rfl
  have HC := Lib.hid hc
  obtain ⟨W0, hW0⟩ : ∃ W0, ((w.alloc (.cells #[.int .i64 32] 30)).alloc (.cells #[.int .i64 0, .int .i64 0, .int .i64 0, .slice none 0 0] 26)).alloc (.cells #[.int .i64 0] 30) = W0 := ⟨_, rfl⟩
  obtain ⟨hT, hB, hsz⟩ := tr_made w W0 hW0
  have T0 := Lib.hid hT
  have HB := Lib.hid hB
  have SZ := Lib.hid hsz
  clear hc hT hB hsz
  go_enter_defers Tryd.func22, Tryd.ntmps22
  go_wp2_with fail
  clear hW0
  refine (HC.out _ HB.out).mono ?_
  rintro e w1 hh
  rcases hh with ⟨r, ra, rc, evs, h1, rfl, h3, h4⟩ | ⟨h1, rfl, h3⟩
  · have H1 := Lib.hid h1
    have H3 := Lib.hid h3
    have H4 := Lib.hid h4
    have T1 := Lib.hid (T0.out.below (h4.mono (by rw [SZ.out]; exact Nat.le_refl _)))
    unfold Rv
    have z0 : w1.cell? ⟨w.heap.size + 1, 0, none⟩ = some (.int .i64 0) := by rw [cell_of_row _ _ _ _ _ _ T1.out.r]; rfl
    have z1 : w1.cell? ⟨w.heap.size + 1, 1, none⟩ = some (.int .i64 0) := by rw [cell_of_row _ _ _ _ _ _ T1.out.r]; rfl
    have z2 : w1.cell? ⟨w.heap.size + 1, 2, none⟩ = some (.int .i64 0) := by rw [cell_of_row _ _ _ _ _ _ T1.out.r]; rfl
    have z3 : w1.cell? ⟨w.heap.size + 1, 3, none⟩ = some (.slice none 0 0) := by rw [cell_of_row _ _ _ _ _ _ T1.out.r]; rfl
    have zf : ∀ j, w1.frozen? ⟨w.heap.size + 1, j, none⟩ = false := fun j => frozen_of_row (j := j) _ _ _ _ T1.out.r
    have c1 : w1.cell? ⟨w.heap.size + 2, 0, none⟩ = some (.int .i64 0) := by rw [cell_of_row _ _ _ _ _ _ T1.out.p]; rfl
    have f1 : w1.frozen? ⟨w.heap.size + 2, 0, none⟩ = false := frozen_of_row (j := 0) _ _ _ _ T1.out.p
    clear h1 h3 h4
    go_wp2
    have t0 := rep_set T1.out.r (.int .i64 r.s) (.int .i64 r.o) (.int .i64 r.c) (.slice ra r.ls.length rc)
    have F4 := fr_four (W := w1) (g := w.heap.size + 1) (.int .i64 r.s) (.int .i64 r.o) (.int .i64 r.c) (.slice ra r.ls.length rc)
    obtain ⟨W2, hW2⟩ : ∃ W2, ((((w1.setCell ⟨w.heap.size + 1, 0, none⟩ (.int .i64 r.s)).setCell ⟨w.heap.size + 1, 1, none⟩ (.int .i64 r.o)).setCell ⟨w.heap.size + 1, 2, none⟩ (.int .i64 r.c)).setCell ⟨w.heap.size + 1, 3, none⟩ (.slice ra r.ls.length rc)) = W2 := ⟨_, rfl⟩
    rw [hW2] at t0 F4 ⊢
    have p2 := (F4.block (w.heap.size + 2) (Array.getElem?_eq_some_iff.1 T1.out.p).1 (by omega)).trans T1.out.p
    have t3 := heap_setCell_same W2 (w.heap.size + 2) 0 _ _ (.int .i64 0) p2
    have t2 := (heap_setCell_other W2 ⟨w.heap.size + 2, 0, none⟩ (w.heap.size + 1) (.int .i64 0) (by show w.heap.size + 1 ≠ w.heap.size + 2; omega)).trans t0
    have F5 : Fr (fun b => b = w.heap.size + 1 ∨ b = w.heap.size + 2) w1 (W2.setCell ⟨w.heap.size + 2, 0, none⟩ (.int .i64 0)) := (F4.mono (G := fun b => b = w.heap.size + 1 ∨ b = w.heap.size + 2) fun b _ e => .inl e).setCell ⟨w.heap.size + 2, 0, none⟩ (.inr rfl) _
    refine leaves_cons (f := 33) (args := #[.pointer (some ⟨w.heap.size, 0, none⟩), .pointer (some ⟨w.heap.size + 2, 0, none⟩)]) (by simp) (by simp [go_sem]) ?_
    refine (caughtR_none ⟨w.heap.size, 0, none⟩ ⟨w.heap.size + 2, 0, none⟩ _).mono ?_
    rintro e u' w'' ⟨rfl, rfl, rfl⟩
    have k1 : (W2.setCell ⟨w.heap.size + 2, 0, none⟩ (.int .i64 0)).cell? ⟨w.heap.size + 2, 0, none⟩ = some (.int .i64 0) := by rw [cell_of_row _ _ _ _ _ _ t3]; rfl
    refine ⟨_, results_rep_err (p := 4) (u := 5) rfl _ _ (w.heap.size + 1) (w.heap.size + 2) _ _ _ _ _ rfl rfl t2 k1, ra, rc, evs, ?_, ?_, ?_⟩
    · rw [(parse_ok H1.out).1, (parse_ok H1.out).2]
      rfl
    · rw [(parse_ok H1.out).1]
      refine rows_from (H3.out.apart F5 fun b hb => ?_) HB.out.size
      rcases hb with rfl | rfl
      · exact ⟨_, _, T1.out.r, by decide, by decide⟩
      · exact ⟨_, _, T1.out.p, by decide, by decide⟩
    · exact (HB.out.trans (H4.out.mono HB.out.size)).trans (F5.below (HB.out.trans (H4.out.mono HB.out.size)).size fun b hb => by rcases hb with rfl | rfl <;> omega)
  · have H1 := Lib.hid h1
    have H3 := Lib.hid h3
    have T1 := T0.out.below (h3.mono (by rw [SZ.out]; exact Nat.le_refl _))
    have q1 : w1.cell? ⟨w.heap.size, 0, none⟩ = some (.int .i64 32) := by rw [cell_of_row _ _ _ _ _ _ T1.q]; rfl
    have c1 : w1.cell? ⟨w.heap.size + 2, 0, none⟩ = some (.int .i64 0) := by rw [cell_of_row _ _ _ _ _ _ T1.p]; rfl
    have f1 : w1.frozen? ⟨w.heap.size + 2, 0, none⟩ = false := frozen_of_row (j := 0) _ _ _ _ T1.p
    have HT := Lib.hid T1
    clear h1 h3 T1
    unfold noE
    go_wp2
    refine leaves_cons (f := 33) (args := #[.pointer (some ⟨w.heap.size, 0, none⟩), .pointer (some ⟨w.heap.size + 2, 0, none⟩)]) (by simp) (by simp [go_sem]) ?_
    refine (caughtR_no ⟨w.heap.size, 0, none⟩ ⟨w.heap.size + 2, 0, none⟩ 0 32 [] _ q1 c1 f1).mono ?_
    rintro e u' w'' ⟨rfl, rfl, rfl⟩
    have hb2 : Below (w.heap.size + 3) w1 (w1.alloc (.cells #[] 74)) := (Below.refl _ _).alloc (Nat.le_trans (by rw [SZ.out]; exact Nat.le_refl _) H3.out.size) _
    have T2 := HT.out.below hb2
    have k1 : ((w1.alloc (.cells #[] 74)).setCell ⟨w.heap.size + 2, 0, none⟩ (.int .i64 32)).cell? ⟨w.heap.size + 2, 0, none⟩ = some (.int .i64 32) := World.cell?_setCell_same _ _ _ (by rw [cell_of_row _ _ _ _ _ _ T2.p]; rfl)
    have t2 := (heap_setCell_other (w1.alloc (.cells #[] 74)) ⟨w.heap.size + 2, 0, none⟩ (w.heap.size + 1) (.int .i64 32) (by show w.heap.size + 1 ≠ w.heap.size + 2; omega)).trans T2.r
    refine ⟨_, results_rep_err (p := 4) (u := 5) rfl _ _ (w.heap.size + 1) (w.heap.size + 2) _ _ _ _ _ rfl rfl t2 k1, none, 0, [], ?_, ?_, ?_⟩
    · rw [(parse_bad H1.out).1, (parse_bad H1.out).2]
      rfl
    · rw [(parse_bad H1.out).1]
      exact Rows.nil _ _
    · exact (HB.out.trans (H3.out.mono HB.out.size)).trans ((hb2.mono (show w.heap.size ≤ w.heap.size + 3 by omega)).setCell (p := ⟨w.heap.size + 2, 0, none⟩) (by show w.heap.size ≤ w.heap.size + 2; omega) _)
set_option maxHeartbeats 1000000 in
/-- Parse, of any lines. -/
theorem parse_any (l : List (List UInt8)) (a : Option Addr) (c : Nat) (w : World) (hv : Vs w) (hg : 0 < w.heap.size) (hc : l.length ≤ c) (hcc : c ≤ 9223372036854775807) (hl : ∀ x ∈ l, x.length ≤ 4294967295) (hr : l.length ≤ 1000000) (hR : SRow w a l) :
    Calls Tryd.prog 13 #[.slice a l.length c] w (PIs l w) := by
  have hmf : ∀ (fn : Fn) (first cap : Array Value) (w : World), (Instr.makeFunc fn first cap).run Tryd.prog w = .ok (.func fn first cap) w := fun _ _ _ _ => rfl
  obtain ⟨W0, hW0⟩ : ∃ W0, (w.alloc (.cells #[.slice a l.length c] 29)).alloc (.cells #[.int .i64 0, .int .i64 0, .int .i64 0, .slice none 0 0] 26) = W0 := ⟨_, rfl⟩
  have s1 : (w.alloc (.cells #[.slice a l.length c] 29)).heap.size = w.heap.size + 1 := by simp
  have hB : Below w.heap.size w W0 := by rw [← hW0]; exact ((Below.refl _ _).alloc (Nat.le_refl _) _).alloc (by simp) _
  have hR0 : W0.heap[w.heap.size]? = some (.cells #[.slice a l.length c] 29 (0, 0)) := by
    rw [← hW0]
    exact ((Below.refl (w.heap.size + 1) (w.alloc (.cells #[.slice a l.length c] 29))).alloc (by simp) (.cells #[.int .i64 0, .int .i64 0, .int .i64 0, .slice none 0 0] 26)).block _ (by omega) |>.trans (heap_alloc_new w _)
  have hR1 : W0.heap[w.heap.size + 1]? = some (.cells #[.int .i64 0, .int .i64 0, .int .i64 0, .slice none 0 0] 26 (0, 0)) := by
    rw [← hW0, ← s1]
    exact heap_alloc_new _ _
  have hlt := (Array.getElem?_eq_some_iff.1 hR0).1
  have TR := Lib.hid (tryR_any l w.heap.size W0 fun w1 hb => parse_clo l a c w.heap.size w1 (hv.below (bgo hB (Nat.le_refl _) hb)) (Nat.lt_of_lt_of_le hg (bgo hB (Nat.le_refl _) hb).size) hc hcc hl hr (hR.below (bgo hB (Nat.le_refl _) hb)) ((hb.block _ hlt).trans hR0))
  have HB := Lib.hid hB
  have R1 := Lib.hid hR1
  have LT : Hid (w.heap.size + 1 < W0.heap.size) := Lib.hid (Array.getElem?_eq_some_iff.1 hR1).1
  clear hv hg hc hcc hl hr hR hB hR0 hR1 hlt s1
  go_enter Tryd.func13, Tryd.ntmps13
  go_wp2_with fail
  clear hW0
  refine TR.out.mono ?_
  rintro e w1 ⟨ra, rc, evs, rfl, hg, hb⟩
  have HG := Lib.hid hg
  have HB1 := Lib.hid hb
  have R2 := Lib.hid ((hb.block _ LT.out).trans R1.out)
  obtain ⟨r, hr⟩ : ∃ r, r = parseV l := ⟨_, rfl⟩
  rw [← hr] at HG ⊢
  unfold Rv
  have z0 : w1.cell? ⟨w.heap.size + 1, 0, none⟩ = some (.int .i64 0) := by rw [cell_of_row _ _ _ _ _ _ R2.out]; rfl
  have z1 : w1.cell? ⟨w.heap.size + 1, 1, none⟩ = some (.int .i64 0) := by rw [cell_of_row _ _ _ _ _ _ R2.out]; rfl
  have z2 : w1.cell? ⟨w.heap.size + 1, 2, none⟩ = some (.int .i64 0) := by rw [cell_of_row _ _ _ _ _ _ R2.out]; rfl
  have z3 : w1.cell? ⟨w.heap.size + 1, 3, none⟩ = some (.slice none 0 0) := by rw [cell_of_row _ _ _ _ _ _ R2.out]; rfl
  have zf : ∀ j, w1.frozen? ⟨w.heap.size + 1, j, none⟩ = false := fun j => frozen_of_row (j := j) _ _ _ _ R2.out
  have HR := Lib.hid hr
  clear hg hb hr
  go_wp2_with fail
  refine bodyPost_ret (results_rep_tmp (p := 2) (u := 3) rfl _ _ (w.heap.size + 1) _ _ _ _ _ rfl rfl (rep_set R2.out _ _ _ _)) rfl ⟨ra, rc, evs, ?_, ?_, ?_⟩
  · rw [← HR.out]
    rfl
  · rw [← HR.out]
    refine rows_from (HG.out.apart (fr_four _ _ _ _) fun b hb => ?_) HB.out.size
    subst hb
    exact ⟨_, _, R2.out, by decide, by decide⟩
  · exact (HB.out.trans (HB1.out.mono HB.out.size)).trans ((fr_four _ _ _ _).below (HB.out.trans (HB1.out.mono HB.out.size)).size fun b hb => by rw [hb]; omega)
end Pd
end Go.Proofs.YtheldnamllnkeaaDoor
