/- Part 27 of the contracts and of the plain mathematics that the proof of the law rests on: HeadDec, StoRh, PageDec. -/
import Derived.Test.YtbmabcddciibfaaGreatWr03
import Derived.Test.YtbmabcddciibfaaGreatWr15
import Derived.Test.YtbmabcddciibfaaGreatWr17
import Derived.Test.YtbmabcddciibfaaGreatWr19
import Derived.Test.YtbmabcddciibfaaGreatWr21
import Derived.Test.YtbmabcddciibfaaGreatWr25
import Derived.Test.YtbmabcddciibfaaGreatWr26
import Derived.Deep.QuietTactic
import Derived.BigQuiet
namespace Go.Proofs.YtbmabcddciibfaaGreat
open Go.RowKit
set_option linter.unusedVariables false
def decV (s : List UInt8) : Value := Hv (Hm.decG s) (Hm.decC s) (Hm.decP s) (Hm.decB s)
def HDec (s : List UInt8) (w : World) (e : Ending) (w' : World) : Prop := e = .returned (.tuple #[decV s, .int .i64 (Hm.decE s)]) ∧ Below w.heap.size w w'
theorem hdec_none (s : List UInt8) (w w' : World) (x : Int) (h : Hm.decE s = x ∧ Hm.decG s = 0 ∧ Hm.decC s = 0 ∧ Hm.decP s = 0 ∧ Hm.decB s = false) (hb : Below w.heap.size w w') : HDec s w (.returned (.tuple #[.agg #[.int .u32 0, .int .i64 0, .int .i64 0, .bool false], .int .i64 x])) w' :=
  ⟨by unfold decV; rw [h.1, h.2.1, h.2.2.1, h.2.2.2.1, h.2.2.2.2]; rfl, hb⟩
theorem hdec_some (s : List UInt8) (w w' : World) (g c p : Nat) (b : Bool) (h : Hm.decE s = 0 ∧ Hm.decG s = g ∧ Hm.decC s = c ∧ Hm.decP s = p ∧ Hm.decB s = b) (hb : Below w.heap.size w w') : HDec s w (.returned (.tuple #[.agg #[.int .u32 (g : Int), .int .i64 (c : Int), .int .i64 (p : Int), .bool b], .int .i64 0])) w' :=
  ⟨by unfold decV; rw [h.1, h.2.1, h.2.2.1, h.2.2.2.1, h.2.2.2.2]; rfl, hb⟩
theorem rd_false (s : List UInt8) (h : s.length = 64) (hg : Cm.good s = true) (ht : (s.take 60).take 4 = Hm.ts) (hr : rdOk ((s.take 60).drop 4) = false) : Hm.decE s = 32 ∧ Hm.decG s = 0 ∧ Hm.decC s = 0 ∧ Hm.decP s = 0 ∧ Hm.decB s = false := by
  unfold rdOk at hr
  cases hz : allZero (((s.take 60).drop 4).drop 11) with
  | false => exact Hm.dec_off s 32 (Sc.op_form h hg ht hz) (by decide)
  | true =>
    rw [hz, Bool.true_and] at hr
    exact Hm.dec_form s (Sc.op_ok h hg ht hz) hr
theorem rd_true (s : List UInt8) (h : s.length = 64) (hg : Cm.good s = true) (ht : (s.take 60).take 4 = Hm.ts) (hr : rdOk ((s.take 60).drop 4) = true) :
    Hm.decE s = 0 ∧ Hm.decG s = Om.at_ ((s.take 60).drop 4) Hm.zs 0 ∧ Hm.decC s = Om.at_ ((s.take 60).drop 4) Hm.zs 1 ∧ Hm.decP s = Om.at_ ((s.take 60).drop 4) Hm.zs 2 ∧ Hm.decB s = (Om.at_ ((s.take 60).drop 4) Hm.zs 3 == 1) := by
  unfold rdOk at hr
  rw [Bool.and_eq_true] at hr
  exact Hm.dec_ok s (Sc.op_ok h hg ht hr.1) hr.2
theorem result_made (w W0 : World) (h : w.alloc (.cells #[.int .u32 0, .int .i64 0, .int .i64 0, .bool false] 105) = W0) :
    Below w.heap.size w W0 ∧ W0.heap[w.heap.size]? = some (.cells #[.int .u32 0, .int .i64 0, .int .i64 0, .bool false] 105 (0, 0)) ∧ w.heap.size < W0.heap.size := by
  subst h
  have h1 := heap_alloc_new w (.cells #[.int .u32 0, .int .i64 0, .int .i64 0, .bool false] 105)
  exact ⟨(Below.refl _ w).alloc (Nat.le_refl _) _, h1, (Array.getElem?_eq_some_iff.1 h1).1⟩
theorem zero_cells {W : World} {g : Nat} {t : TypeId} (h : W.heap[g]? = some (.cells #[.int .u32 0, .int .i64 0, .int .i64 0, .bool false] t (0, 0))) :
    W.cell? ⟨g, 0, none⟩ = some (.int .u32 0) ∧ W.cell? ⟨g, 1, none⟩ = some (.int .i64 0) ∧ W.cell? ⟨g, 2, none⟩ = some (.int .i64 0) ∧ W.cell? ⟨g, 3, none⟩ = some (.bool false) ∧ ∀ j, W.frozen? ⟨g, j, none⟩ = false :=
  ⟨by rw [cell_of_row _ _ _ _ _ _ h]; rfl, by rw [cell_of_row _ _ _ _ _ _ h]; rfl, by rw [cell_of_row _ _ _ _ _ _ h]; rfl, by rw [cell_of_row _ _ _ _ _ _ h]; rfl, fun j => frozen_of_row (j := j) _ _ _ _ h⟩
theorem hdec_cut (s : List UInt8) (w : World) (h : s.length ≠ 64) : Calls Tryz.prog 123 #[.string (Om.B s)] w (HDec s w) := by
  have hne : (((Om.B s).size : Int) != 64) = true := by rw [bne_iff_ne, Om.B_size]; omega
  have HD := Lib.hid (Hm.dec_off s 21 (Sc.op_cut h) (by decide))
  obtain ⟨W0, hW0⟩ : ∃ W0, w.alloc (.cells #[.int .u32 0, .int .i64 0, .int .i64 0, .bool false] 105) = W0 := ⟨_, rfl⟩
  obtain ⟨hB, h0, lt⟩ := result_made w W0 hW0
  have HB := Lib.hid hB
  have H0 := Lib.hid h0
  have LT := Lib.hid lt
  obtain ⟨z0, z1, z2, z3, zf⟩ := zero_cells h0
  clear h hB h0 lt
  go_enter Tryz.func123, Tryz.ntmps123
  go_wp2
  refine bodyPost_ret (results_four (p := 2) (u := 3) rfl _ _ w.heap.size _ _ _ _ _ rfl rfl (four_set H0.out _ _ _ _)) rfl ?_
  exact hdec_none s w _ 21 HD.out (below_four HB.out (Nat.le_refl _) _ _ _ _)
theorem hdec_sum (s : List UInt8) (w : World) (h : s.length = 64) (hg : Cm.good s = false) : Calls Tryz.prog 123 #[.string (Om.B s)] w (HDec s w) := by
  have hne : (((Om.B s).size : Int) != 64) = false := by rw [bne_eq_false_iff_eq, Om.B_size]; omega
  have HD := Lib.hid (Hm.dec_off s 31 (Sc.op_sum h hg) (by decide))
  have hc := fun w1 => open_any s w1 (by omega) (by omega)
  rw [hg] at hc
  have C := Lib.hid hc
  obtain ⟨W0, hW0⟩ : ∃ W0, w.alloc (.cells #[.int .u32 0, .int .i64 0, .int .i64 0, .bool false] 105) = W0 := ⟨_, rfl⟩
  obtain ⟨hB, h0, lt⟩ := result_made w W0 hW0
  have HB := Lib.hid hB
  have H0 := Lib.hid h0
  have LT := Lib.hid lt
  clear h hB h0 lt hg hc
  go_enter Tryz.func123, Tryz.ntmps123
  go_wp2_with fail
  clear hW0
  refine (C.out _).mono ?_
  rintro e w1 ⟨he, hb⟩
  obtain rfl : e = .returned (.tuple #[.string (Om.B []), .int .i64 31]) := he
  have h1 := (hb.block _ LT.out).trans H0.out
  have H1 := Lib.hid h1
  have HB1 := Lib.hid (HB.out.trans (hb.mono HB.out.size))
  obtain ⟨z0, z1, z2, z3, zf⟩ := zero_cells h1
  clear hb h1
  go_wp2
  refine bodyPost_ret (results_four (p := 2) (u := 3) rfl _ _ w.heap.size _ _ _ _ _ rfl rfl (four_set H1.out _ _ _ _)) rfl ?_
  exact hdec_none s w _ 31 HD.out (below_four HB1.out (Nat.le_refl _) _ _ _ _)
theorem hdec_magic (s : List UInt8) (w : World) (h : s.length = 64) (hg : Cm.good s = true) (ht : (s.take 60).take 4 ≠ Hm.ts) : Calls Tryz.prog 123 #[.string (Om.B s)] w (HDec s w) := by
  have hne : (((Om.B s).size : Int) != 64) = false := by rw [bne_eq_false_iff_eq, Om.B_size]; omega
  have hc := fun w1 => open_any s w1 (by omega) (by omega)
  have hbl : (s.take 60).length = 60 := by rw [List.length_take]; omega
  rw [hg, h] at hc
  have HD := Lib.hid (Hm.dec_off s 22 (Sc.op_magic h hg ht) (by decide))
  obtain ⟨b, hb⟩ : ∃ b, b = s.take 60 := ⟨_, rfl⟩
  have hc' : ∀ w1, Calls Tryz.prog 146 #[.string (Om.B s)] w1 fun e w' => e = .returned (.tuple #[.string (Om.B b), .int .i64 0]) ∧ Below w1.heap.size w1 w' := fun w1 => by
    rw [hb]
    exact (hc w1).mono fun e w' h => h
  rw [← hb] at ht hbl
  have C := Lib.hid hc'
  have M := Lib.hid (fun w1 => cut_no b Hm.ts w1 (by rw [hbl]; decide) ht)
  have hts : Om.B Hm.ts = ⟨#[79, 65, 75, 72]⟩ := rfl
  rw [hts] at M
  obtain ⟨W0, hW0⟩ : ∃ W0, w.alloc (.cells #[.int .u32 0, .int .i64 0, .int .i64 0, .bool false] 105) = W0 := ⟨_, rfl⟩
  obtain ⟨hB, h0, lt⟩ := result_made w W0 hW0
  have HB := Lib.hid hB
  have H0 := Lib.hid h0
  have LT := Lib.hid lt
  clear h hB h0 lt hg hc hc' ht hb hts
  go_enter Tryz.func123, Tryz.ntmps123
  go_wp2_with fail
  clear hW0
  refine (C.out _).mono ?_
  rintro e w1 ⟨rfl, hb1⟩
  have h1 := (hb1.block _ LT.out).trans H0.out
  have H1 := Lib.hid h1
  have HB1 := Lib.hid (HB.out.trans (hb1.mono HB.out.size))
  obtain ⟨z0, z1, z2, z3, zf⟩ := zero_cells h1
  clear hb1 h1
  go_wp2_with fail
  refine (M.out _).mono ?_
  rintro e w2 ⟨rfl, rfl⟩
  go_wp2
  refine bodyPost_ret (results_four (p := 2) (u := 3) rfl _ _ w.heap.size _ _ _ _ _ rfl rfl (four_set H1.out _ _ _ _)) rfl ?_
  exact hdec_none s w _ 22 HD.out (below_four HB1.out (Nat.le_refl _) _ _ _ _)
theorem hdec_form (s : List UInt8) (w : World) (h : s.length = 64) (hg : Cm.good s = true) (ht : (s.take 60).take 4 = Hm.ts) (hr : rdOk ((s.take 60).drop 4) = false) : Calls Tryz.prog 123 #[.string (Om.B s)] w (HDec s w) := by
  have hne : (((Om.B s).size : Int) != 64) = false := by rw [bne_eq_false_iff_eq, Om.B_size]; omega
  have hc := fun w1 => open_any s w1 (by omega) (by omega)
  have hbl : (s.take 60).length = 60 := by rw [List.length_take]; omega
  rw [hg, h] at hc
  have HD := Lib.hid (rd_false s h hg ht hr)
  obtain ⟨b, hb⟩ : ∃ b, b = s.take 60 := ⟨_, rfl⟩
  have hc' : ∀ w1, Calls Tryz.prog 146 #[.string (Om.B s)] w1 fun e w' => e = .returned (.tuple #[.string (Om.B b), .int .i64 0]) ∧ Below w1.heap.size w1 w' := fun w1 => by
    rw [hb]
    exact (hc w1).mono fun e w' h => h
  rw [← hb] at ht hr hbl
  have C := Lib.hid hc'
  have M := Lib.hid (fun w1 => cut_yes b Hm.ts w1 (by rw [hbl]; decide) ht)
  have hts : Om.B Hm.ts = ⟨#[79, 65, 75, 72]⟩ := rfl
  rw [hts, show b.drop Hm.ts.length = b.drop 4 from rfl] at M
  obtain ⟨q, hq⟩ : ∃ q, q = b.drop 4 := ⟨_, rfl⟩
  have hql : q.length = 56 := by rw [hq, List.length_drop, hbl]
  rw [← hq] at M hr
  have R := Lib.hid (fun w1 => hread_any q w1 (by omega) (by omega))
  rw [hr] at R
  rw [rdV_no, show Hv 0 0 0 false = .agg #[.int .u32 0, .int .i64 0, .int .i64 0, .bool false] from rfl] at R
  obtain ⟨W0, hW0⟩ : ∃ W0, w.alloc (.cells #[.int .u32 0, .int .i64 0, .int .i64 0, .bool false] 105) = W0 := ⟨_, rfl⟩
  obtain ⟨hB, h0, lt⟩ := result_made w W0 hW0
  have HB := Lib.hid hB
  have H0 := Lib.hid h0
  have LT := Lib.hid lt
  clear h hB h0 lt hg hc hc' ht hb hts hbl hr hq
  go_enter Tryz.func123, Tryz.ntmps123
  go_wp2_with fail
  clear hW0
  refine (C.out _).mono ?_
  rintro e w1 ⟨rfl, hb1⟩
  have B1 := Lib.hid hb1
  clear hb1
  go_wp2_with fail
  refine (M.out _).mono ?_
  rintro e w2 ⟨rfl, rfl⟩
  go_wp2_with fail
  refine (R.out _).mono ?_
  rintro e w3 ⟨rfl, hb3⟩
  have B3 := Lib.hid (B1.out.trans (hb3.mono B1.out.size))
  clear hb3
  have hb4 : Below w3.heap.size w3 (w3.alloc (.cells #[.int .u32 0, .int .i64 0, .int .i64 0, .bool false] 105)) := (Below.refl _ _).alloc (Nat.le_refl _) _
  have B4 := Lib.hid (B3.out.trans (hb4.mono B3.out.size))
  have h4 := (B4.out.block _ LT.out).trans H0.out
  have H4 := Lib.hid h4
  have HB4 := Lib.hid (HB.out.trans (B4.out.mono HB.out.size))
  obtain ⟨z0, z1, z2, z3, zf⟩ := zero_cells h4
  clear hb4 h4
  go_wp2
  refine bodyPost_ret (results_four (p := 2) (u := 3) rfl _ _ w.heap.size _ _ _ _ _ rfl rfl (four_set H4.out _ _ _ _)) rfl ?_
  exact hdec_none s w _ 32 HD.out (below_four HB4.out (Nat.le_refl _) _ _ _ _)
theorem hdec_good (s : List UInt8) (w : World) (h : s.length = 64) (hg : Cm.good s = true) (ht : (s.take 60).take 4 = Hm.ts) (hr : rdOk ((s.take 60).drop 4) = true) : Calls Tryz.prog 123 #[.string (Om.B s)] w (HDec s w) := by
  have hne : (((Om.B s).size : Int) != 64) = false := by rw [bne_eq_false_iff_eq, Om.B_size]; omega
  have hc := fun w1 => open_any s w1 (by omega) (by omega)
  have hbl : (s.take 60).length = 60 := by rw [List.length_take]; omega
  rw [hg, h] at hc
  have HD := Lib.hid (rd_true s h hg ht hr)
  obtain ⟨b, hb⟩ : ∃ b, b = s.take 60 := ⟨_, rfl⟩
  have hc' : ∀ w1, Calls Tryz.prog 146 #[.string (Om.B s)] w1 fun e w' => e = .returned (.tuple #[.string (Om.B b), .int .i64 0]) ∧ Below w1.heap.size w1 w' := fun w1 => by
    rw [hb]
    exact (hc w1).mono fun e w' h => h
  rw [← hb] at ht hr HD hbl
  have C := Lib.hid hc'
  have M := Lib.hid (fun w1 => cut_yes b Hm.ts w1 (by rw [hbl]; decide) ht)
  have hts : Om.B Hm.ts = ⟨#[79, 65, 75, 72]⟩ := rfl
  rw [hts, show b.drop Hm.ts.length = b.drop 4 from rfl] at M
  obtain ⟨q, hq⟩ : ∃ q, q = b.drop 4 := ⟨_, rfl⟩
  have hql : q.length = 56 := by rw [hq, List.length_drop, hbl]
  rw [← hq] at M hr HD
  have R := Lib.hid (fun w1 => hread_any q w1 (by omega) (by omega))
  rw [hr] at R
  rw [rdV_yes] at R
  obtain ⟨n0, hn0⟩ : ∃ n, n = Om.at_ q Hm.zs 0 := ⟨_, rfl⟩
  obtain ⟨n1, hn1⟩ : ∃ n, n = Om.at_ q Hm.zs 1 := ⟨_, rfl⟩
  obtain ⟨n2, hn2⟩ : ∃ n, n = Om.at_ q Hm.zs 2 := ⟨_, rfl⟩
  obtain ⟨x3, hx3⟩ : ∃ x, x = (Om.at_ q Hm.zs 3 == 1) := ⟨_, rfl⟩
  rw [← hn0, ← hn1, ← hn2, ← hx3] at R HD
  unfold Hv at R
  obtain ⟨W0, hW0⟩ : ∃ W0, w.alloc (.cells #[.int .u32 0, .int .i64 0, .int .i64 0, .bool false] 105) = W0 := ⟨_, rfl⟩
  obtain ⟨hB, h0, lt⟩ := result_made w W0 hW0
  have HB := Lib.hid hB
  have H0 := Lib.hid h0
  have LT := Lib.hid lt
  clear h hB h0 lt hg hc hc' ht hb hts hbl hr hq hn0 hn1 hn2 hx3
  go_enter Tryz.func123, Tryz.ntmps123
  go_wp2_with fail
  clear hW0
  refine (C.out _).mono ?_
  rintro e w1 ⟨rfl, hb1⟩
  have B1 := Lib.hid hb1
  clear hb1
  go_wp2_with fail
  refine (M.out _).mono ?_
  rintro e w2 ⟨rfl, rfl⟩
  go_wp2_with fail
  refine (R.out _).mono ?_
  rintro e w3 ⟨rfl, hb3⟩
  have B3 := Lib.hid (B1.out.trans (hb3.mono B1.out.size))
  clear hb3
  have hb4 : Below w3.heap.size w3 (w3.alloc (.cells #[.int .u32 (n0 : Int), .int .i64 (n1 : Int), .int .i64 (n2 : Int), .bool x3] 105)) := (Below.refl _ _).alloc (Nat.le_refl _) _
  have B4 := Lib.hid (B3.out.trans (hb4.mono B3.out.size))
  have h4 := (B4.out.block _ LT.out).trans H0.out
  have H4 := Lib.hid h4
  have HB4 := Lib.hid (HB.out.trans (B4.out.mono HB.out.size))
  obtain ⟨z0, z1, z2, z3, zf⟩ := zero_cells h4
  obtain ⟨_, b0, b1, b2, b3⟩ := bx_alloc w3 n0 n1 n2 x3 105
  clear hb4 h4
  go_wp2
  refine bodyPost_ret (results_four (p := 2) (u := 3) rfl _ _ w.heap.size _ _ _ _ _ rfl rfl (four_set H4.out _ _ _ _)) rfl ?_
  exact hdec_some s w _ n0 n1 n2 x3 HD.out (below_four HB4.out (Nat.le_refl _) _ _ _ _)
theorem hdec_any (s : List UInt8) (w : World) : Calls Tryz.prog 123 #[.string (Om.B s)] w (HDec s w) := by
  by_cases h : s.length = 64
  · cases hg : Cm.good s with
    | false => exact hdec_sum s w h hg
    | true =>
      by_cases ht : (s.take 60).take 4 = Hm.ts
      · cases hr : rdOk ((s.take 60).drop 4) with
        | false => exact hdec_form s w h hg ht hr
        | true => exact hdec_good s w h hg ht hr
      · exact hdec_magic s w h hg ht
  · exact hdec_cut s w h
end Go.Proofs.YtbmabcddciibfaaGreat
namespace Go.Proofs.YtbmabcddciibfaaGreat
namespace So
open Go.RowKit
set_option maxRecDepth 100000
set_option linter.unusedVariables false
theorem sread_one {w : World} {o : Dsk.Ob} {st : Dm.St} (h : Dsk.Dk w o st) (hd : st.dead = false) (hP : st.P.length ≤ 1099511627776) {k : Nat} (hk : k < st.S.length) :
    Calls Tryz.prog 56 #[.pointer (some ⟨o.p, 0, none⟩), .int .i64 (k : Int), .int .i64 1] w fun e w' => e = .returned (.tuple #[.string (Om.B (Dm.one st k)), .int .i64 0]) ∧ Below w.heap.size w w' := by
  have h1 := Dsk.read_yes h k 1 hd (by omega) hP
  have e : Dm.span st k 1 = Dm.one st k := by simp [Dm.span]
  rw [e] at h1
  exact h1
theorem head_made (w W : World) (x0 x1 x2 x3 : Value) (h : w.alloc (.cells #[x0, x1, x2, x3] 105) = W) : Below w.heap.size w W ∧ W.heap[w.heap.size]? = some (.cells #[x0, x1, x2, x3] 105 (0, 0)) ∧ W.heap.size = w.heap.size + 1 := by
  subst h
  exact ⟨(Below.refl _ _).alloc (Nat.le_refl _) _, heap_alloc_new w _, by simp⟩
theorem four_other {w : World} {g q : Nat} (h : q < g) (x y z u : Value) (j : Nat) : ((((w.setCell ⟨g, 0, none⟩ x).setCell ⟨g, 1, none⟩ y).setCell ⟨g, 2, none⟩ z).setCell ⟨g, 3, none⟩ u).cell? ⟨q, j, none⟩ = w.cell? ⟨q, j, none⟩ := by
  have hn : q ≠ g := by omega
  unfold World.cell?
  rw [show (⟨q, j, none⟩ : Addr).block = q from rfl, Below.heap_setCell _ ⟨g, 3, none⟩ _ _ hn, Below.heap_setCell _ ⟨g, 2, none⟩ _ _ hn, Below.heap_setCell _ ⟨g, 1, none⟩ _ _ hn, Below.heap_setCell _ ⟨g, 0, none⟩ _ _ hn]
theorem alloc_other {w : World} {q : Nat} (h : q < w.heap.size) (o : Obj) (j : Nat) : (w.alloc o).cell? ⟨q, j, none⟩ = w.cell? ⟨q, j, none⟩ := World.cell?_of_block (a := ⟨q, j, none⟩) (Below.heap_alloc _ _ _ h)
theorem drew_cell (w : World) (p : Addr) : w.drew.cell? p = w.cell? p := rfl
theorem keepb {W0 X w3 : World} (hb : Below X.heap.size X w3) (h : Below W0.heap.size W0 X) : Below W0.heap.size W0 w3 := h.trans (hb.mono h.size)
structure HSpot (W0 Wn : World) (g : Nat) (x0 x1 x2 x3 : Value) : Prop where
  bel : Below W0.heap.size W0 Wn
  row : Wn.heap[g]? = some (.cells #[x0, x1, x2, x3] 105 (0, 0))
  new : W0.heap.size ≤ g
theorem hspot_a {W0 w3 : World} (h : Below W0.heap.size W0 w3) (z0 z1 z2 z3 x0 x1 x2 x3 : Value) :
    HSpot W0 (((((w3.alloc (.cells #[z0, z1, z2, z3] 105)).setCell ⟨w3.heap.size, 0, none⟩ x0).setCell ⟨w3.heap.size, 1, none⟩ x1).setCell ⟨w3.heap.size, 2, none⟩ x2).setCell ⟨w3.heap.size, 3, none⟩ x3) w3.heap.size x0 x1 x2 x3 :=
  ⟨below_four (h.alloc h.size _) h.size _ _ _ _, four_set (heap_alloc_new w3 _) _ _ _ _, h.size⟩
theorem hspot_c {W0 w3 : World} (h : Below W0.heap.size W0 w3) (x0 x1 x2 x3 : Value) : HSpot W0 (w3.alloc (.cells #[x0, x1, x2, x3] 105)) w3.heap.size x0 x1 x2 x3 :=
  ⟨h.alloc h.size _, heap_alloc_new w3 _, h.size⟩
theorem hspot_n {W0 w3 : World} {g : Nat} {z0 z1 z2 z3 : Value} (h : Below W0.heap.size W0 w3) (hn : w3.heap[g]? = some (.cells #[z0, z1, z2, z3] 105 (0, 0))) (hg : W0.heap.size ≤ g) (x0 x1 x2 x3 : Value) :
    HSpot W0 ((((w3.setCell ⟨g, 0, none⟩ x0).setCell ⟨g, 1, none⟩ x1).setCell ⟨g, 2, none⟩ x2).setCell ⟨g, 3, none⟩ x3) g x0 x1 x2 x3 :=
  ⟨below_four h hg _ _ _ _, four_set hn _ _ _ _, hg⟩
theorem four_cells {W : World} {g : Nat} {a b c d : Value} {t : TypeId} (h : W.heap[g]? = some (.cells #[a, b, c, d] t (0, 0))) :
    W.cell? ⟨g, 0, none⟩ = some a ∧ W.cell? ⟨g, 1, none⟩ = some b ∧ W.cell? ⟨g, 2, none⟩ = some c ∧ W.cell? ⟨g, 3, none⟩ = some d ∧ ∀ j, W.frozen? ⟨g, j, none⟩ = false :=
  ⟨by rw [cell_of_row _ _ _ _ _ _ h]; rfl, by rw [cell_of_row _ _ _ _ _ _ h]; rfl, by rw [cell_of_row _ _ _ _ _ _ h]; rfl, by rw [cell_of_row _ _ _ _ _ _ h]; rfl, fun j => frozen_of_row (j := j) _ _ _ _ h⟩
set_option maxHeartbeats 8000000 in
theorem srh_any {w : World} {b : Bk} {p : Pa} {st : Dm.St} {m : List Int} (h : Sk w b p false st m) (hp : p.Ok) (hd : st.dead = false) (hl : st.S.length = p.a) (hP : st.P.length ≤ 1099511627776) :
    Calls Tryz.prog 89 #[.pointer (some ⟨b.q, 0, none⟩)] w fun e w' => Below w.heap.size w w' ∧
      ((headB p (Dm.one st p.st) = true ∧ e = .returned (.agg #[.int .u32 (p.gen : Int), .int .i64 (p.g : Int), .int .i64 (p.N : Int), .bool (Hm.decB (Dm.one st p.st))])) ∨ (headB p (Dm.one st p.st) = false ∧ e = faultE 165)) := by
  obtain ⟨W0, hW0⟩ : ∃ W0, w.alloc (.cells #[.int .u32 0, .int .i64 0, .int .i64 0, .bool false] 105) = W0 := ⟨_, rfl⟩
  obtain ⟨hB, hz, hsz⟩ := head_made w W0 _ _ _ _ hW0
  have h0 := h.below hB
  have hin : p.st < st.S.length := by have := hp.high; have := hp.nums.size; omega
  have RD := Lib.hid (fun w1 (hb : Below W0.heap.size W0 w1) => sread_one (h0.below hb).dk hd hP hin)
  obtain ⟨s, hs⟩ : ∃ s, s = Dm.one st p.st := ⟨_, rfl⟩
  rw [← hs] at RD ⊢
  have MU := Lib.hid (fun w1 => mustS_ok (.string (Om.B s)) w1)
  obtain ⟨G, hG⟩ : ∃ G, G = Hm.decG s := ⟨_, rfl⟩
  obtain ⟨C, hC⟩ : ∃ C, C = Hm.decC s := ⟨_, rfl⟩
  obtain ⟨P, hPP⟩ : ∃ P, P = Hm.decP s := ⟨_, rfl⟩
  obtain ⟨Bv, hBv⟩ : ∃ B, B = Hm.decB s := ⟨_, rfl⟩
  obtain ⟨x, hx⟩ : ∃ x, x = Hm.decE s := ⟨_, rfl⟩
  have DE : Hid (∀ w1, Calls Tryz.prog 123 #[.string (Om.B s)] w1 fun e w' => e = .returned (.tuple #[.agg #[.int .u32 (G : Int), .int .i64 (C : Int), .int .i64 (P : Int), .bool Bv], .int .i64 x]) ∧ Below w1.heap.size w1 w') := Lib.hid fun w1 => (hdec_any s w1).mono fun e w' ⟨e1, e2⟩ => ⟨by rw [e1, hG, hC, hPP, hBv, hx]; rfl, e2⟩
  rw [← hBv]
  have HSK := Lib.hid h0
  have HB := Lib.hid hB
  have HZ := Lib.hid hz
  obtain ⟨-, -, -, c3, c4, -, -, -, -, -, -, cf⟩ := h0.reads
  have SZ := Lib.hid hsz
  have QL : Hid (b.q < W0.heap.size) := Lib.hid (h0.lt b.q (.inl rfl))
  clear h hp hd hl hP hin hB hsz hz h0
  have HEQ := Lib.hid (And.intro hG (And.intro hC (And.intro hPP (And.intro hBv hx))))
  clear hG hC hPP hBv hx hs
  go_enter Tryz.func89, Tryz.ntmps89
  go_wp2_with fail
  clear hW0
  go_upto_region 1 with fail
  go_cut [3, 4] (fun s3 s4 wx => ∃ g, s3 = .pointer (some ⟨g, 0, none⟩) ∧ s4 = .int .i64 x ∧ Hid (HSpot W0 wx g (.int .u32 (G : Int)) (.int .i64 (C : Int)) (.int .i64 (P : Int)) (.bool Bv)))
  case first =>
    go_region_held3 (fun w' => w'.cell? ⟨b.q, 3, none⟩ = some (.pointer (some ⟨b.d.p, 0, none⟩)) ∧ w'.cell? ⟨b.q, 4, none⟩ = some (.int .i64 (p.st : Int)))
      (first
        | (refine ⟨?_, ?_⟩ <;> (rw [four_other (g := w3.heap.size) (Nat.lt_of_lt_of_le QL.out B3.out.size), alloc_other (w := w3) (Nat.lt_of_lt_of_le QL.out B3.out.size)]; assumption))
        | (refine ⟨?_, ?_⟩ <;> (rw [four_other (g := w1.heap.size) (Nat.lt_of_lt_of_le QL.out B1.out.size)]; assumption))
        | (refine ⟨?_, ?_⟩ <;> (rw [four_other (g := W0.heap.size) QL.out]; assumption))
        | (refine ⟨?_, ?_⟩ <;> (rw [alloc_other (w := w3) (Nat.lt_of_lt_of_le QL.out B3.out.size)]; assumption))
        | (refine ⟨?_, ?_⟩ <;> (rw [alloc_other (w := w1) (Nat.lt_of_lt_of_le QL.out B1.out.size)]; assumption))
        | (refine ⟨?_, ?_⟩ <;> (rw [drew_cell, alloc_other (w := W0) QL.out]; assumption))
        | (refine ⟨?_, ?_⟩ <;> assumption))
      (first
        | (go_at_call 123; refine (DE.out _).mono ?_; rintro e w3 ⟨rfl, hb⟩; have B3 : Hid (Below W0.heap.size W0 w3) := Lib.hid (keepb hb (by first | exact B1.out | exact B1.out.alloc B1.out.size _)); have k3 := HSK.out.below B3.out; obtain ⟨-, -, -, u3, u4, -, -, -, -, -, -, uf⟩ := k3.reads; first | (have N3 := Lib.hid (row_new hb); obtain ⟨mz0, mz1, mz2, mz3, mzf⟩ := zero_cells N3.out) | (have N3 := Lib.hid (row_next hb N1.out); obtain ⟨mz0, mz1, mz2, mz3, mzf⟩ := zero_cells N3.out) | skip)
        | (go_at_call 55; refine (MU.out _).mono ?_; rintro e w2 ⟨rfl, rfl⟩)
        | (go_at_call 56; refine (RD.out _ (by first | exact (Below.refl _ _).drew | exact ((Below.refl _ _).alloc (Nat.le_refl _) _).drew)).mono ?_; rintro e w1 ⟨rfl, hb⟩; have B1 : Hid (Below W0.heap.size W0 w1) := Lib.hid (keepb hb (by first | exact (Below.refl _ _).drew | exact ((Below.refl _ _).alloc (Nat.le_refl _) _).drew)); have k1 := HSK.out.below B1.out; obtain ⟨-, -, -, q3, q4, -, -, -, -, -, -, qf⟩ := k1.reads; first | (have N1 := Lib.hid (row_drew hb); obtain ⟨nz0, nz1, nz2, nz3, nzf⟩ := zero_cells N1.out) | skip))
    all_goals
      go_wp2_with fail
      go_meet
      first
      | exact ⟨_, rfl, rfl, Lib.hid (hspot_n B3.out N3.out (by first | exact Nat.le_refl _ | exact B1.out.size) _ _ _ _)⟩
      | exact ⟨_, rfl, rfl, Lib.hid (hspot_c B3.out _ _ _ _)⟩
      | exact ⟨_, rfl, rfl, Lib.hid (hspot_a B3.out _ _ _ _ _ _ _ _)⟩
  case rest =>
  obtain ⟨g, rfl, rfl, SP⟩ := hcut
  obtain ⟨Wn, hWn⟩ : ∃ Wn, wc = Wn := ⟨_, rfl⟩
  rw [hWn] at SP ⊢
  clear hWn c3 c4 cf RD MU DE
  obtain ⟨y0, y1, y2, y3, yf⟩ := four_cells SP.out.row
  go_upto_region 4 with fail
  obtain ⟨W5, hW5⟩ : ∃ W5, Wn.alloc (.cells #[.int .u32 (G : Int), .int .i64 (C : Int), .int .i64 (P : Int), .bool false] 105) = W5 := ⟨_, rfl⟩
  rw [hW5]
  obtain ⟨hb5, hr5, -⟩ := head_made Wn W5 _ _ _ _ hW5
  obtain ⟨v0, v1, v2, v3, vf⟩ := four_cells hr5
  have hB5 := SP.out.bel.trans (hb5.mono SP.out.bel.size)
  have k5 := HSK.out.below hB5
  obtain ⟨-, -, -, -, -, -, r6, r7, r8, r9, -, rf⟩ := k5.reads
  obtain ⟨u0, u1, u2, u3, uf⟩ := four_cells ((hb5.block g (Dsk.lt_of_heap SP.out.row)).trans SP.out.row)
  have hz5 := (hB5.block w.heap.size (by rw [SZ.out]; omega)).trans HZ.out
  obtain ⟨z0, z1, z2, z3, zf⟩ := four_cells hz5
  have Z5 := Lib.hid hz5
  have FB : Hid (Below w.heap.size w W5) := Lib.hid (HB.out.trans (hB5.mono HB.out.size))
  clear hW5 hb5 hr5 hB5 k5 hz5 y0 y1 y2 y3 yf
  have NN := Lib.hid (fun w1 => needRight_no w1)
  have NY := Lib.hid (fun w1 => needRight_yes w1)
  unfold faultE at NN
  by_cases hx0 : x = 0
  · subst hx0
    have EQ := fun w1 => eq_head (G : Int) (C : Int) (P : Int) (p.gen : Int) (p.g : Int) (p.N : Int) w1
    by_cases hall : G = p.gen ∧ C = p.g ∧ P = p.N
    · obtain ⟨hg1, hg2, hg3⟩ := hall
      have FIN : Hid (headB p s = true) := Lib.hid (by
        obtain ⟨h1, h2, h3, h4, h5⟩ := HEQ.out
        exact headB_iff.2 ⟨h5.symm, by omega, by omega, by omega⟩)
      have EQ2 : ∀ w1, (binOp .eql 105 (.agg #[.int .u32 (G : Int), .int .i64 (C : Int), .int .i64 (P : Int), .bool false]) (.agg #[.int .u32 (p.gen : Int), .int .i64 (p.g : Int), .int .i64 (p.N : Int), .bool false])).run Tryz.prog w1 = .ok (.bool true) w1 := fun w1 => by rw [EQ w1, hg1, hg2, hg3]; simp
      have HV : Hid (Value.agg #[.int .u32 (G : Int), .int .i64 (C : Int), .int .i64 (P : Int), .bool Bv] = .agg #[.int .u32 (p.gen : Int), .int .i64 (p.g : Int), .int .i64 (p.N : Int), .bool Bv]) := Lib.hid (by rw [hg1, hg2, hg3])
      clear EQ hg1 hg2 hg3 NN
      go_region_held3 (fun w' => w'.cell? ⟨Wn.heap.size, 0, none⟩ = some (.int .u32 (G : Int)) ∧ w'.cell? ⟨Wn.heap.size, 1, none⟩ = some (.int .i64 (C : Int)) ∧ w'.cell? ⟨Wn.heap.size, 2, none⟩ = some (.int .i64 (P : Int)) ∧ w'.cell? ⟨Wn.heap.size, 3, none⟩ = some (.bool false) ∧ w'.cell? ⟨b.q, 6, none⟩ = some (.int .u32 (p.gen : Int)) ∧ w'.cell? ⟨b.q, 7, none⟩ = some (.int .i64 (p.g : Int)) ∧ w'.cell? ⟨b.q, 8, none⟩ = some (.int .i64 (p.N : Int)) ∧ w'.cell? ⟨b.q, 9, none⟩ = some (.bool false))
        (first | (refine ⟨?_, ?_, ?_, ?_, ?_, ?_, ?_, ?_⟩ <;> assumption) | go_keep)
        (first | (go_at_call 93; refine (NY.out _).mono ?_; rintro e w7 ⟨rfl, rfl⟩))
      clear EQ2 v0 v1 v2 v3 vf r6 r7 r8 r9 rf
      go_wp2_with fail
      refine bodyPost_ret (results_head1 (p := 2) rfl _ _ w.heap.size _ _ _ _ rfl (four_set (w := W5.drew) Z5.out _ _ _ _)) rfl ⟨below_four FB.out.drew (Nat.le_refl _) _ _ _ _, .inl ⟨FIN.out, ?_⟩⟩
      rw [HV.out]
    · have FIN : Hid (headB p s = false) := Lib.hid (by
        obtain ⟨h1, h2, h3, h4, h5⟩ := HEQ.out
        rw [← Bool.not_eq_true, headB_iff]
        rintro ⟨q1, q2, q3, q4⟩
        exact hall ⟨by omega, by omega, by omega⟩)
      have EQ2 : ∀ w1, (binOp .eql 105 (.agg #[.int .u32 (G : Int), .int .i64 (C : Int), .int .i64 (P : Int), .bool false]) (.agg #[.int .u32 (p.gen : Int), .int .i64 (p.g : Int), .int .i64 (p.N : Int), .bool false])).run Tryz.prog w1 = .ok (.bool false) w1 := fun w1 => by
        rw [EQ w1]
        have : ((G : Int) == (p.gen : Int) && ((C : Int) == (p.g : Int) && (P : Int) == (p.N : Int))) = false := by
          rw [← Bool.not_eq_true, Bool.and_eq_true, Bool.and_eq_true, beq_iff_eq, beq_iff_eq, beq_iff_eq]
          rintro ⟨q1, q2, q3⟩
          exact hall ⟨by omega, by omega, by omega⟩
        rw [this]
      clear EQ hall NY
      go_region_held (fun w' => w'.cell? ⟨Wn.heap.size, 0, none⟩ = some (.int .u32 (G : Int)) ∧ w'.cell? ⟨Wn.heap.size, 1, none⟩ = some (.int .i64 (C : Int)) ∧ w'.cell? ⟨Wn.heap.size, 2, none⟩ = some (.int .i64 (P : Int)) ∧ w'.cell? ⟨Wn.heap.size, 3, none⟩ = some (.bool false) ∧ w'.cell? ⟨b.q, 6, none⟩ = some (.int .u32 (p.gen : Int)) ∧ w'.cell? ⟨b.q, 7, none⟩ = some (.int .i64 (p.g : Int)) ∧ w'.cell? ⟨b.q, 8, none⟩ = some (.int .i64 (p.N : Int)) ∧ w'.cell? ⟨b.q, 9, none⟩ = some (.bool false))
        (first | (refine ⟨?_, ?_, ?_, ?_, ?_, ?_, ?_, ?_⟩ <;> assumption) | go_keep)
        (first | (go_at_call 93; refine (NN.out _).mono ?_; rintro e w7 ⟨rfl, rfl⟩; refine Classical.byContradiction fun hn => ?_; have hno : False := hn ⟨rfl, FB.out.drew, .inr ⟨FIN.out, rfl⟩⟩; clear hn; refine way_out (by assumption) hno { tmps := #[], defers := [] } W5.drew ?_))
      exact hno.elim
  · have hx1 : (x == 0) = false := by simpa using hx0
    have FIN : Hid (headB p s = false) := Lib.hid (by
      obtain ⟨h1, h2, h3, h4, h5⟩ := HEQ.out
      rw [← Bool.not_eq_true, headB_iff]
      rintro ⟨q1, q2, q3, q4⟩
      exact hx0 (h5.trans q1))
    clear hx0 NY
    refine wp_region_held_drew (S := fun _ => True) (by kernel_rfl) trivial (fun hHeld => ?_)
    refine Skip.take (i := 0) 25 (.int .i64 x) rfl rfl (by kernel_rfl) (by kernel_rfl) (by kernel_rfl) (fun _ _ _ h => h) (by rfl) ?_ trivial ?_
    · intro w' hSw
      go_simp
    try simp only [Act.put, List.setIfInBounds_toArray, List.set_cons_zero, List.set_cons_succ]
    refine Skip.take (i := 1) 26 (.bool false) rfl rfl (by kernel_rfl) (by kernel_rfl) (by kernel_rfl) (fun _ _ _ h => h) (by rfl) ?_ trivial ?_
    · intro w' hSw
      go_simp
    try simp only [Act.put, List.setIfInBounds_toArray, List.set_cons_zero, List.set_cons_succ]
    refine Skip.take (i := 2) 27 (.bool false) rfl rfl (by kernel_rfl) (by kernel_rfl) (by kernel_rfl) (fun _ _ _ h => h) (by rfl) ?_ trivial ?_
    · intro w' hSw
      go_simp
    try simp only [Act.put, List.setIfInBounds_toArray, List.set_cons_zero, List.set_cons_succ]
    refine pass (i := 3) (d := 28) rfl rfl (by kernel_rfl) (by kernel_rfl) (by kernel_rfl) (fun _ _ _ h => h) (by rfl) trivial ?_
    try simp only [Act.put, List.setIfInBounds_toArray, List.set_cons_zero, List.set_cons_succ]
    refine pass (i := 4) (d := 29) rfl rfl (by kernel_rfl) (by kernel_rfl) (by kernel_rfl) (fun _ _ _ h => h) (by rfl) trivial ?_
    try simp only [Act.put, List.setIfInBounds_toArray, List.set_cons_zero, List.set_cons_succ]
    refine pass (i := 5) (d := 30) rfl rfl (by kernel_rfl) (by kernel_rfl) (by kernel_rfl) (fun _ _ _ h => h) (by rfl) trivial ?_
    try simp only [Act.put, List.setIfInBounds_toArray, List.set_cons_zero, List.set_cons_succ]
    refine pass (i := 6) (d := 31) rfl rfl (by kernel_rfl) (by kernel_rfl) (by kernel_rfl) (fun _ _ _ h => h) (by rfl) trivial ?_
    try simp only [Act.put, List.setIfInBounds_toArray, List.set_cons_zero, List.set_cons_succ]
    refine pass (i := 7) (d := 32) rfl rfl (by kernel_rfl) (by kernel_rfl) (by kernel_rfl) (fun _ _ _ h => h) (by rfl) trivial ?_
    try simp only [Act.put, List.setIfInBounds_toArray, List.set_cons_zero, List.set_cons_succ]
    refine pass (i := 8) (d := 33) rfl rfl (by kernel_rfl) (by kernel_rfl) (by kernel_rfl) (fun _ _ _ h => h) (by rfl) trivial ?_
    try simp only [Act.put, List.setIfInBounds_toArray, List.set_cons_zero, List.set_cons_succ]
    refine Skip.take (i := 9) 34 (.bool false) rfl rfl (by kernel_rfl) (by kernel_rfl) (by kernel_rfl) (fun _ _ _ h => h) (by rfl) ?_ trivial ?_
    · intro w' hSw
      go_simp
    try simp only [Act.put, List.setIfInBounds_toArray, List.set_cons_zero, List.set_cons_succ]
    refine wpAnyH_ready (rs := [10]) (by kernel_rfl) (by simp) ?_
    refine AllReadyH.cons rfl (fun K hK => ?_) AllReadyH.nil
    go_simp
    go_at_call 93
    refine (NN.out _).mono ?_
    rintro e w4 ⟨rfl, rfl⟩
    refine Classical.byContradiction fun hn => ?_
    have hno : False := hn ⟨rfl, FB.out.drew, .inr ⟨FIN.out, rfl⟩⟩
    exact hno.elim
end So
end Go.Proofs.YtbmabcddciibfaaGreat
namespace Go.Proofs.YtbmabcddciibfaaGreat
open Go.RowKit
set_option maxRecDepth 100000
set_option linter.unusedVariables false
def DecIs (s : List UInt8) (w : World) (e : Ending) (w' : World) : Prop :=
  ∃ a n c, e = .returned (.tuple #[.int .u32 (Pm.decG s : Int), .slice a n c, .int .i64 (Pm.decE s)]) ∧ n = (Pm.decL s).length ∧ Row w' w'.heap.size a n (szs (Pm.decL s)) ∧ Below w.heap.size w w'
theorem dec_none (s : List UInt8) (w w' : World) (x : Int) (h : Pm.decE s = x ∧ Pm.decG s = 0 ∧ Pm.decL s = []) (hb : Below w.heap.size w w') : DecIs s w (.returned (.tuple #[.int .u32 0, .slice none 0 0, .int .i64 x])) w' :=
  ⟨none, 0, 0, by rw [h.1, h.2.1]; rfl, by rw [h.2.2]; rfl, Row.empty _ _ _ _, hb⟩
theorem dec_some (s : List UInt8) (w w' : World) (y : Nat) (a : Option Addr) (c : Nat) (h : Pm.decE s = 0 ∧ Pm.decG s = y ∧ Pm.decL s = Pm.vals (s.take 60)) (hr : Row w' w'.heap.size a 13 (szs (Pm.vals (s.take 60)))) (hb : Below w.heap.size w w') :
    DecIs s w (.returned (.tuple #[.int .u32 (y : Int), .slice a 13 c, .int .i64 0])) w' :=
  ⟨a, 13, c, by rw [h.1, h.2.1], by rw [h.2.2, Pm.vals_len], by rw [h.2.2]; exact hr, hb⟩
theorem pdec_cut (s : List UInt8) (w : World) (h : s.length ≠ 64) : Calls Tryz.prog 125 #[.string (Om.B s)] w (DecIs s w) := by
  have hne : (((Om.B s).size : Int) != 64) = true := by rw [bne_iff_ne, Om.B_size]; omega
  have hd := Pm.dec_cut s h
  have HD := Lib.hid hd
  clear hd h
  go_enter Tryz.func125, Tryz.ntmps125
  go_wp2
  go_ret3
  exact dec_none s w w 21 HD.out (Below.refl _ _)
theorem pdec_sum (s : List UInt8) (w : World) (h : s.length = 64) (hg : Cm.good s = false) : Calls Tryz.prog 125 #[.string (Om.B s)] w (DecIs s w) := by
  have hne : (((Om.B s).size : Int) != 64) = false := by rw [bne_eq_false_iff_eq, Om.B_size]; omega
  have hd := Pm.dec_sum s h hg
  have hc := fun w1 => open_any s w1 (by omega) (by omega)
  rw [hg] at hc
  have C := Lib.hid hc
  have HD := Lib.hid hd
  clear hd h hg hc
  go_enter Tryz.func125, Tryz.ntmps125
  go_wp2_with fail
  refine (C.out _).mono ?_
  rintro e w1 ⟨he, hb⟩
  obtain rfl : e = .returned (.tuple #[.string (Om.B []), .int .i64 31]) := he
  have HB := Lib.hid hb
  clear hb
  go_wp2
  go_ret3
  exact dec_none s w w1 31 HD.out HB.out
set_option maxHeartbeats 800000 in
theorem pdec_good (s : List UInt8) (w : World) (h : s.length = 64) (hg : Cm.good s = true) : Calls Tryz.prog 125 #[.string (Om.B s)] w (DecIs s w) := by
  have hne : (((Om.B s).size : Int) != 64) = false := by rw [bne_eq_false_iff_eq, Om.B_size]; omega
  have hc := fun w1 => open_any s w1 (by omega) (by omega)
  have hbl : (s.take 60).length = 60 := by rw [List.length_take]; omega
  have hform := Pm.dec_form s h hg
  have hok := Pm.dec_ok s h hg
  rw [hg, h] at hc
  unfold Pm.okB at hform hok
  obtain ⟨b, hb⟩ : ∃ b, b = s.take 60 := ⟨_, rfl⟩
  have hc' : ∀ w1, Calls Tryz.prog 146 #[.string (Om.B s)] w1 fun e w' => e = .returned (.tuple #[.string (Om.B b), .int .i64 0]) ∧ Below w1.heap.size w1 w' := fun w1 => by
    rw [hb]
    exact (hc w1).mono fun e w' h => h
  have hvb : Pm.vals (s.take 60) = Pm.vals b := by rw [hb]
  rw [← hb] at hform hok hbl
  have C := Lib.hid hc'
  have HF := Lib.hid hform
  have HK := Lib.hid hok
  have HVB := Lib.hid hvb
  clear hform hok hc hc' h hg hvb hb
  have hpg := Pm.pgen_lt b
  obtain ⟨g, hge⟩ : ∃ g, g = Pm.pgen b := ⟨_, rfl⟩
  rw [← hge] at HK hpg
  have HG := Lib.hid hge
  obtain ⟨q, hq⟩ : ∃ q, q = b.drop 56 := ⟨_, rfl⟩
  have hql : q.length ≤ 4611686018427387904 := by rw [hq, List.length_drop]; omega
  obtain ⟨z, hz⟩ : ∃ z, z = allZero q := ⟨_, rfl⟩
  obtain ⟨r, hr⟩ : ∃ r, r = Pm.okL (Pm.vals b) := ⟨_, rfl⟩
  have Z := Lib.hid (fun w1 => zero_any q w1 hql)
  have R := Lib.hid (fun B a c w1 h1 h2 => pread_any b B a c w1 h1 h2)
  have hrv : r = true → readV b = arr b 13 := fun e => by unfold readV; rw [← hr, if_pos e]
  have HRV := Lib.hid hrv
  rw [← hz] at Z
  rw [← hr] at R
  rw [← hq, ← hz, ← hr] at HF HK
  have G := Lib.hid (fun B a cap w1 h1 h2 => get_full b Pm.zs B a 14 cap w1 rfl (by omega) h1 h2 Pm.zs_ok (by rw [Pm.zs_off 14 (Nat.le_refl _)]; omega))
  have hdrop : b.drop (Om.off Pm.zs 14) = q := by rw [Pm.zs_off 14 (Nat.le_refl _), hq]
  unfold GetFull at G
  rw [hdrop] at G
  have hrs : (readV b).size = 13 := by unfold readV; split <;> exact arr_size _ _
  have hro : (readV b).all (·.oneCell') = true := by unfold readV; split <;> exact arr_one _ _
  have hinfo : (Tryz.prog.info? 195).map (·.size) = some (readV b).size := by rw [hrs]; kernel_rfl
  have HRS := Lib.hid hrs
  have HRO := Lib.hid hro
  have HIN := Lib.hid hinfo
  clear hge hq hz hr hrv hdrop hql hbl hrs hro hinfo
  go_enter Tryz.func125, Tryz.ntmps125
  go_wp2_with fail
  refine (C.out _).mono ?_
  rintro e w1 ⟨rfl, hb1⟩
  have HB1 := Lib.hid hb1
  clear hb1
  go_wp2_with fail
  refine (sizes_any _).mono ?_
  rintro e w2 ⟨rfl, hr2, hb2⟩
  have HR2 := Lib.hid hr2
  have HB2 := Lib.hid (HB1.out.trans (hb2.mono HB1.out.size))
  clear hr2 hb2
  go_wp2_with fail
  refine (G.out w2.heap.size _ _ _ (Nat.le_refl _) HR2.out).mono ?_
  rintro e w3 ⟨nb, rfl, hn1, hn2, hcells, hb3⟩
  have HB3 := Lib.hid (HB2.out.trans (hb3.mono HB2.out.size))
  have HC3 := Lib.hid hcells
  have hrow3 : Row w3 w3.heap.size (some ⟨nb, 1, none⟩) 13 (pats b) := fun _ => ⟨nb, 1, rfl, hn2, fun i hi => by rw [Nat.add_comm, hcells (i + 1) (by omega)]; rfl⟩
  have HROW3 := Lib.hid hrow3
  clear hcells hb3 hrow3 hn1
  go_wp2_with fail
  refine (R.out w3.heap.size _ _ _ (Nat.le_refl _) HROW3.out).mono ?_
  rintro e w4 ⟨rfl, hb4⟩
  have HB4 := Lib.hid (HB3.out.trans (hb4.mono HB3.out.size))
  have hc0 : w4.cell? ⟨nb, 0, none⟩ = some (.int .u64 (g : Int)) := by rw [hb4.cell (p := ⟨nb, 0, none⟩) hn2, HC3.out 0 (by omega), HG.out]; rfl
  have hnb4 : nb < w4.heap.size := Nat.lt_of_lt_of_le hn2 hb4.size
  clear hb4
  have hheap : ((w4.alloc (.cells #[.int .i64 0, .int .i64 0, .int .i64 0, .int .i64 0, .int .i64 0, .int .i64 0, .int .i64 0, .int .i64 0, .int .i64 0, .int .i64 0, .int .i64 0, .int .i64 0, .int .i64 0] 195)).setRow w4.heap.size (readV b)).heap[w4.heap.size]? = some (.cells (readV b) 195 (0, 0)) := setRow_heap _ _ _ _ _ _ (heap_alloc_new _ _)
  have hb5 : Below w4.heap.size w4 ((w4.alloc (.cells #[.int .i64 0, .int .i64 0, .int .i64 0, .int .i64 0, .int .i64 0, .int .i64 0, .int .i64 0, .int .i64 0, .int .i64 0, .int .i64 0, .int .i64 0, .int .i64 0, .int .i64 0] 195)).setRow w4.heap.size (readV b)) := below_setRow ((Below.refl _ _).alloc (Nat.le_refl _) _) (Nat.le_refl _) _
  have hc5 : ((w4.alloc (.cells #[.int .i64 0, .int .i64 0, .int .i64 0, .int .i64 0, .int .i64 0, .int .i64 0, .int .i64 0, .int .i64 0, .int .i64 0, .int .i64 0, .int .i64 0, .int .i64 0, .int .i64 0] 195)).setRow w4.heap.size (readV b)).cell? ⟨nb, 0, none⟩ = some (.int .u64 (g : Int)) := by rw [hb5.cell (p := ⟨nb, 0, none⟩) hnb4, hc0]
  have HH := Lib.hid hheap
  have HB5 := Lib.hid (HB4.out.trans (hb5.mono HB4.out.size))
  clear hc0 hb5 hheap
  cases r with
  | false =>
    have hdn := HF.out (by simp)
    have HD := Lib.hid hdn
    clear hdn hc5
    go_wp2_with (first | (refine wpList_store_row rfl 195 _ _ rfl w4.heap.size (readV b) rfl rfl 195 _ (heap_alloc_new _ _) HIN.out (by rw [HRS.out]; rfl) HRO.out ?_))
    go_ret3
    exact dec_none s w _ 32 HD.out HB5.out
  | true =>
    cases z with
    | false =>
      have hdn := HF.out (by simp)
      have HD := Lib.hid hdn
      clear hdn hc5
      go_wp2_with (first | (refine wpList_store_row rfl 195 _ _ rfl w4.heap.size (readV b) rfl rfl 195 _ (heap_alloc_new _ _) HIN.out (by rw [HRS.out]; rfl) HRO.out ?_))
      refine (Z.out _).mono ?_
      rintro e w5 ⟨rfl, rfl⟩
      go_wp2
      go_ret3
      exact dec_none s w _ 32 HD.out HB5.out
    | true =>
      have hdn := HK.out (by simp)
      rw [← HVB.out] at hdn
      have HD := Lib.hid hdn
      have hrv := HRV.out rfl
      have hrow5 : Row ((w4.alloc (.cells #[.int .i64 0, .int .i64 0, .int .i64 0, .int .i64 0, .int .i64 0, .int .i64 0, .int .i64 0, .int .i64 0, .int .i64 0, .int .i64 0, .int .i64 0, .int .i64 0, .int .i64 0] 195)).setRow w4.heap.size (readV b)) ((w4.alloc (.cells #[.int .i64 0, .int .i64 0, .int .i64 0, .int .i64 0, .int .i64 0, .int .i64 0, .int .i64 0, .int .i64 0, .int .i64 0, .int .i64 0, .int .i64 0, .int .i64 0, .int .i64 0] 195)).setRow w4.heap.size (readV b)).heap.size (some ⟨w4.heap.size, 0, none⟩) 13 (szs (Pm.vals b)) := fun _ => ⟨w4.heap.size, 0, rfl, by simp, fun i hi => by
        rw [cell_of_row _ _ _ _ _ _ HH.out, hrv, Nat.zero_add, arr_get b 13 i hi (Nat.le_refl _)]
        unfold szs
        rw [Pm.vals_get b i hi]⟩
      have HR5 := Lib.hid hrow5
      clear hdn hrv hrow5
      go_wp2_with (first | (refine wpList_store_row rfl 195 _ _ rfl w4.heap.size (readV b) rfl rfl 195 _ (heap_alloc_new _ _) HIN.out (by rw [HRS.out]; rfl) HRO.out ?_))
      refine (Z.out _).mono ?_
      rintro e w5 ⟨rfl, rfl⟩
      go_wp2
      go_quiet (fail)
      go_wp2
      go_ret3
      exact dec_some s w _ g _ _ HD.out (by rw [HVB.out]; exact HR5.out.below (below_drewN (Below.refl _ _) nq)) (below_drewN HB5.out nq)
theorem pdec_any (s : List UInt8) (w : World) : Calls Tryz.prog 125 #[.string (Om.B s)] w (DecIs s w) := by
  by_cases h : s.length = 64
  · cases hg : Cm.good s with
    | false => exact pdec_sum s w h hg
    | true => exact pdec_good s w h hg
  · exact pdec_cut s w h
end Go.Proofs.YtbmabcddciibfaaGreat
