/- The contract of dump's Lines. -/
import Derived.Test.YtheldnamllnkeaaDoorDmpTry
namespace Go.Proofs.YtheldnamllnkeaaDoor
namespace Pd
open Go.RowKit Dsk
set_option maxRecDepth 100000
set_option linter.unusedVariables false

/-- The memory of a call that recovers: what is told else, and the error, in boxes. -/
structure Tw (B : Nat) (W : World) : Prop where
  q : W.heap[B]? = some (.cells #[.int .i64 1] 30 (0, 0))
  p : W.heap[B + 1]? = some (.cells #[.int .i64 0] 30 (0, 0))
theorem Tw.below {B : Nat} {W W' : World} (h : Tw B W) (hb : Below (B + 2) W W') : Tw B W' := ⟨(hb.block B (by omega)).trans h.q, (hb.block (B + 1) (by omega)).trans h.p⟩
theorem tw_made (w W0 : World) (h : (w.alloc (.cells #[.int .i64 1] 30)).alloc (.cells #[.int .i64 0] 30) = W0) : Tw w.heap.size W0 ∧ Below w.heap.size w W0 ∧ W0.heap.size = w.heap.size + 2 := by
  subst h
  have h1 := heap_alloc_new w (.cells #[.int .i64 1] 30)
  have h2 := heap_alloc_new (w.alloc (.cells #[.int .i64 1] 30)) (.cells #[.int .i64 0] 30)
  have hs : (w.alloc (.cells #[.int .i64 1] 30)).heap.size = w.heap.size + 1 := by simp
  rw [hs] at h2
  have hb : Below (w.heap.size + 1) (w.alloc (.cells #[.int .i64 1] 30)) ((w.alloc (.cells #[.int .i64 1] 30)).alloc (.cells #[.int .i64 0] 30)) := (Below.refl _ _).alloc (by simp) _
  exact ⟨⟨(hb.block _ (by omega)).trans h1, h2⟩, ((Below.refl _ w).alloc (Nat.le_refl _) _).alloc (by simp) _, by simp⟩
theorem dumpE_ok {r : Rp} (h : okR r = true) : dumpE r = 0 ∧ dumpV r = dump r := by unfold dumpE dumpV; rw [h]; exact ⟨rfl, rfl⟩
theorem dumpE_no {r : Rp} (h : okR r = false) : dumpE r = 1 ∧ dumpV r = [] := by unfold dumpE dumpV; rw [h]; exact ⟨rfl, rfl⟩
theorem dumpof_any (r : Rp) (a : Option Addr) (c : Nat) (hw : Wr r) (hn : r.ls.length ≤ 60) (hes : ∀ x ∈ r.ls, x.es.length ≤ 60) (w : World) (hv : Vs w) (hl : RLns w a r.ls) :
    Calls Tryd.prog 18 #[Rv r a c] w (OfIs r w) := by
  have no : okS r = false → okR r = false := fun h => by unfold okR; rw [h, Bool.false_and]
  cases h1 : okN r.s with
  | false => exact (dumpof_no0 r a c hw h1 w hv).mono fun e w' ⟨h, hb⟩ => .inr ⟨no (by unfold okS; rw [h1]; rfl), h, hb⟩
  | true =>
  cases h2 : okN r.o with
  | false => exact (dumpof_no1 r a c hw h1 h2 w hv).mono fun e w' ⟨h, hb⟩ => .inr ⟨no (by unfold okS; rw [h1, h2]; rfl), h, hb⟩
  | true =>
  cases h3 : okN r.c with
  | false => exact (dumpof_no2 r a c hw h1 h2 h3 w hv).mono fun e w' ⟨h, hb⟩ => .inr ⟨no (by unfold okS; rw [h1, h2, h3]; rfl), h, hb⟩
  | true => exact dumpof_ok r a c hw (by unfold okS; rw [h1, h2, h3]; rfl) hn hes w hv hl
/-- The closure that makes a dump. -/
theorem lines_clo (r : Rp) (a : Option Addr) (c k : Nat) (hw : Wr r) (hn : r.ls.length ≤ 60) (hes : ∀ x ∈ r.ls, x.es.length ≤ 60) (w : World) (hv : Vs w) (hl : RLns w a r.ls)
    (hk : w.heap[k]? = some (.cells #[.int .i64 r.s, .int .i64 r.o, .int .i64 r.c, .slice a r.ls.length c] 26 (0, 0))) :
    Calls Tryd.prog 17 #[.pointer (some ⟨k, 0, none⟩)] w (OfIs r w) := by
  have OF := Lib.hid (dumpof_any r a c hw hn hes w hv hl)
  have c0 : w.cell? ⟨k, 0, none⟩ = some (.int .i64 r.s) := by rw [cell_of_row _ _ _ _ _ _ hk]; rfl
  have c1 : w.cell? ⟨k, 1, none⟩ = some (.int .i64 r.o) := by rw [cell_of_row _ _ _ _ _ _ hk]; rfl
  have c2 : w.cell? ⟨k, 2, none⟩ = some (.int .i64 r.c) := by rw [cell_of_row _ _ _ _ _ _ hk]; rfl
  have c3 : w.cell? ⟨k, 3, none⟩ = some (.slice a r.ls.length c) := by rw [cell_of_row _ _ _ _ _ _ hk]; rfl
  clear hw hn hes hv hl hk
  unfold Rv at OF
  go_enter Tryd.func17, Tryd.ntmps17
  go_wp2_with fail
  refine OF.out.mono ?_
  rintro e w1 h
  rcases h with ⟨v, h1, rfl, h3⟩ | ⟨h1, rfl, h3⟩
  · have H1 := Lib.hid h1
    have H3 := Lib.hid h3
    clear h1 h3
    go_wp2
    go_ret
    exact .inl ⟨_, H1.out, rfl, H3.out⟩
  · have H1 := Lib.hid h1
    have H3 := Lib.hid h3
    clear h1 h3
    unfold noE
    go_wp2
    exact ⟨rfl, .inr ⟨H1.out, rfl, H3.out⟩⟩
theorem results_slot_err {fn : Func} {s u : Tmp} (h : fn.results = #[.tmp s, .cell u 30]) (tmps : Array Value) (w : World) (k : Nat) (x v : Value)
    (hs : tmps.getD s undef = x) (hu : tmps.getD u undef = .pointer (some ⟨k, 0, none⟩)) (hk : w.cell? ⟨k, 0, none⟩ = some v) :
    (results fn tmps).run Tryd.prog w = .ok (.tuple #[x, v]) w := by
  have hs' : tmps[s]?.getD undef = x := by simpa using hs
  have hu' : tmps[u]?.getD undef = .pointer (some ⟨k, 0, none⟩) := by simpa using hu
  simp [results, h, hs', hu', asAddr, Result.andThen, go_sem, hk]
set_option maxHeartbeats 1000000 in
/-- What is made, or nothing, and an error. -/
theorem tryS_any (r : Rp) (k : Nat) (w : World) (hc : ∀ w1, Below w.heap.size w w1 → Calls Tryd.prog 17 #[.pointer (some ⟨k, 0, none⟩)] w1 (OfIs r w1)) :
    Calls Tryd.prog 16 #[.func (.func 17) #[] #[.pointer (some ⟨k, 0, none⟩)], .int .i64 1] w (LIs r w) := by
  have hmf : ∀ (fn : Fn) (first cap : Array Value) (w : World), (Instr.makeFunc fn first cap).run Tryd.prog w = .ok (.func fn first cap) w := fun _ _ _ _ => rfl
  have HC := Lib.hid hc
  obtain ⟨W0, hW0⟩ : ∃ W0, (w.alloc (.cells #[.int .i64 1] 30)).alloc (.cells #[.int .i64 0] 30) = W0 := ⟨_, rfl⟩
  obtain ⟨hT, hB, hsz⟩ := tw_made w W0 hW0
  have T0 := Lib.hid hT
  have HB := Lib.hid hB
  have SZ := Lib.hid hsz
  clear hc hT hB hsz
  go_enter_defers Tryd.func16, Tryd.ntmps16
  go_wp2_with fail
  clear hW0
  refine (HC.out _ HB.out).mono ?_
  rintro e w1 h
  rcases h with ⟨v, h1, rfl, h3⟩ | ⟨h1, rfl, h3⟩
  · have H1 := Lib.hid h1
    have H3 := Lib.hid h3
    have T1 := T0.out.below (h3.below.mono (by rw [SZ.out]; exact Nat.le_refl _))
    have c1 : w1.cell? ⟨w.heap.size + 1, 0, none⟩ = some (.int .i64 0) := by rw [cell_of_row _ _ _ _ _ _ T1.p]; rfl
    have f1 : w1.frozen? ⟨w.heap.size + 1, 0, none⟩ = false := frozen_of_row (j := 0) _ _ _ _ T1.p
    clear h1 h3 T1
    go_wp2
    refine leaves_cons (f := 28) (args := #[.pointer (some ⟨w.heap.size, 0, none⟩), .pointer (some ⟨w.heap.size + 1, 0, none⟩)]) (by simp) (by simp [go_sem]) ?_
    refine (caughtS_none ⟨w.heap.size, 0, none⟩ ⟨w.heap.size + 1, 0, none⟩ _).mono ?_
    rintro e u' w'' ⟨rfl, rfl, rfl⟩
    have k1 : (w1.setCell ⟨w.heap.size + 1, 0, none⟩ (.int .i64 0)).cell? ⟨w.heap.size + 1, 0, none⟩ = some (.int .i64 0) := World.cell?_setCell_same w1 _ _ c1
    have hb2 : Below (w.heap.size + 1) w1 (w1.setCell ⟨w.heap.size + 1, 0, none⟩ (.int .i64 0)) := (Below.refl _ _).setCell (p := ⟨w.heap.size + 1, 0, none⟩) (Nat.le_refl _) _
    refine ⟨_, results_slot_err (s := 4) (u := 5) rfl _ _ (w.heap.size + 1) _ _ rfl rfl k1, v, ?_, ?_⟩
    · rw [(dumpE_ok H1.out).1]
      rfl
    · rw [(dumpE_ok H1.out).2]
      have hrow : Strs (w1.setCell ⟨w.heap.size + 1, 0, none⟩ (.int .i64 0)) v (dump r) := own_same H3.out.row fun j hj => heap_setCell_other _ _ _ _ (by have := H3.out.new j hj; rw [SZ.out] at this; show j ≠ w.heap.size + 1; omega)
      exact ⟨hrow, fun j hj => by have := H3.out.new j hj; rw [SZ.out] at this; omega, (HB.out.trans (H3.out.below.mono (by rw [SZ.out]; omega))).trans (hb2.mono (by omega))⟩
  · have H1 := Lib.hid h1
    have H3 := Lib.hid h3
    have T1 := T0.out.below (h3.mono (by rw [SZ.out]; exact Nat.le_refl _))
    have q1 : w1.cell? ⟨w.heap.size, 0, none⟩ = some (.int .i64 1) := by rw [cell_of_row _ _ _ _ _ _ T1.q]; rfl
    have c1 : w1.cell? ⟨w.heap.size + 1, 0, none⟩ = some (.int .i64 0) := by rw [cell_of_row _ _ _ _ _ _ T1.p]; rfl
    have f1 : w1.frozen? ⟨w.heap.size + 1, 0, none⟩ = false := frozen_of_row (j := 0) _ _ _ _ T1.p
    have lt1 := (Array.getElem?_eq_some_iff.1 T1.p).1
    clear h1 h3 T1
    unfold noE
    go_wp2
    refine leaves_cons (f := 28) (args := #[.pointer (some ⟨w.heap.size, 0, none⟩), .pointer (some ⟨w.heap.size + 1, 0, none⟩)]) (by simp) (by simp [go_sem]) ?_
    refine (caughtS_no ⟨w.heap.size, 0, none⟩ ⟨w.heap.size + 1, 0, none⟩ 0 1 [] _ q1 c1 f1).mono ?_
    rintro e u' w'' ⟨rfl, rfl, rfl⟩
    have hb2 : Below (w.heap.size + 2) w1 (w1.alloc (.cells #[] 74)) := (Below.refl _ _).alloc (by omega) _
    have c2 : (w1.alloc (.cells #[] 74)).cell? ⟨w.heap.size + 1, 0, none⟩ = some (.int .i64 0) := (hb2.cell (p := ⟨w.heap.size + 1, 0, none⟩) (by show w.heap.size + 1 < _; omega)).trans c1
    have k1 : ((w1.alloc (.cells #[] 74)).setCell ⟨w.heap.size + 1, 0, none⟩ (.int .i64 1)).cell? ⟨w.heap.size + 1, 0, none⟩ = some (.int .i64 1) := World.cell?_setCell_same _ _ _ c2
    refine ⟨_, results_slot_err (s := 4) (u := 5) rfl _ _ (w.heap.size + 1) _ _ rfl rfl k1, .slice none 0 0, ?_, ?_⟩
    · rw [(dumpE_no H1.out).1]
      rfl
    · rw [(dumpE_no H1.out).2]
      exact GrowsS.nil ((HB.out.trans (H3.out.mono (by rw [SZ.out]; omega))).trans ((hb2.mono (show w.heap.size ≤ w.heap.size + 2 by omega)).setCell (p := ⟨w.heap.size + 1, 0, none⟩) (by show w.heap.size ≤ w.heap.size + 1; omega) _))
/-- Lines, of any report. -/
theorem lines_any (r : Rp) (a : Option Addr) (c : Nat) (hw : Wr r) (hn : r.ls.length ≤ 60) (hes : ∀ x ∈ r.ls, x.es.length ≤ 60) (w : World) (hv : Vs w) (hl : RLns w a r.ls) :
    Calls Tryd.prog 8 #[Rv r a c] w (LIs r w) := by
  have hmf : ∀ (fn : Fn) (first cap : Array Value) (w : World), (Instr.makeFunc fn first cap).run Tryd.prog w = .ok (.func fn first cap) w := fun _ _ _ _ => rfl
  obtain ⟨W0, hW0⟩ : ∃ W0, w.alloc (.cells #[.int .i64 r.s, .int .i64 r.o, .int .i64 r.c, .slice a r.ls.length c] 26) = W0 := ⟨_, rfl⟩
  have hB : Below w.heap.size w W0 := by rw [← hW0]; exact (Below.refl _ _).alloc (Nat.le_refl _) _
  have hR : W0.heap[w.heap.size]? = some (.cells #[.int .i64 r.s, .int .i64 r.o, .int .i64 r.c, .slice a r.ls.length c] 26 (0, 0)) := by rw [← hW0]; exact heap_alloc_new _ _
  have hlt := (Array.getElem?_eq_some_iff.1 hR).1
  have TR := Lib.hid (tryS_any r w.heap.size W0 fun w1 hb => lines_clo r a c w.heap.size hw hn hes w1 (hv.below (bgo hB (Nat.le_refl _) hb)) (hl.below (bgo hB (Nat.le_refl _) hb)) ((hb.block _ hlt).trans hR))
  have HB := Lib.hid hB
  clear hw hn hes hv hl hB hR hlt
  unfold Rv
  go_enter Tryd.func8, Tryd.ntmps8
  go_wp2_with fail
  clear hW0
  refine TR.out.mono ?_
  rintro e w1 ⟨v, rfl, hg⟩
  have HG := Lib.hid hg
  clear hg
  go_wp2
  go_ret2
  exact ⟨v, rfl, HG.out.from HB.out⟩
end Pd
end Go.Proofs.YtheldnamllnkeaaDoor
