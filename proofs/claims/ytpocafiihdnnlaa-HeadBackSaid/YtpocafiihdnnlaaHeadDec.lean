/- The contract of head's Decode. -/
import Derived.Test.YtpocafiihdnnlaaHeadRead
import Derived.Test.YtpocafiihdnnlaaCutPrefix
namespace Go.Proofs.Ytpocafiihdnnlaa
open Go.RowKit
set_option linter.unusedVariables false

/-- The head that is told of any bytes. -/
def decV (s : List UInt8) : Value := Hv (Hm.decG s) (Hm.decC s) (Hm.decP s) (Hm.decB s)
/-- What is told of any bytes. -/
def HDec (s : List UInt8) (w : World) (e : Ending) (w' : World) : Prop := e = .returned (.tuple #[decV s, .int .i64 (Hm.decE s)]) ∧ Below w.heap.size w w'
theorem hdec_none (s : List UInt8) (w w' : World) (x : Int) (h : Hm.decE s = x ∧ Hm.decG s = 0 ∧ Hm.decC s = 0 ∧ Hm.decP s = 0 ∧ Hm.decB s = false) (hb : Below w.heap.size w w') : HDec s w (.returned (.tuple #[.agg #[.int .u32 0, .int .i64 0, .int .i64 0, .bool false], .int .i64 x])) w' :=
  ⟨by unfold decV; rw [h.1, h.2.1, h.2.2.1, h.2.2.2.1, h.2.2.2.2]; rfl, hb⟩
theorem hdec_some (s : List UInt8) (w w' : World) (g c p : Nat) (b : Bool) (h : Hm.decE s = 0 ∧ Hm.decG s = g ∧ Hm.decC s = c ∧ Hm.decP s = p ∧ Hm.decB s = b) (hb : Below w.heap.size w w') : HDec s w (.returned (.tuple #[.agg #[.int .u32 (g : Int), .int .i64 (c : Int), .int .i64 (p : Int), .bool b], .int .i64 0])) w' :=
  ⟨by unfold decV; rw [h.1, h.2.1, h.2.2.1, h.2.2.2.1, h.2.2.2.2]; rfl, hb⟩
theorem rd_false (s : List UInt8) (h : s.length = 64) (hg : Cm.good s = true) (ht : (s.take 60).take 4 = Hm.ts) (hr : rdOk ((s.take 60).drop 4) = false) : Hm.decE s = 32 ∧ Hm.decG s = 0 ∧ Hm.decC s = 0 ∧ Hm.decP s = 0 ∧ Hm.decB s = false := by
  unfold rdOk at hr
  cases hz : allZero (((s.take 60).drop 4).drop 11) with
  | false => exact Hm.dec_off s 32 (Sc.op_form h hg ht hz) (by decide)
  | true =>
    rw [hz, Bool.true_and] at hr
    exact Hm.dec_form s (Sc.op_ok h hg ht hz) hr
theorem rd_true (s : List UInt8) (h : s.length = 64) (hg : Cm.good s = true) (ht : (s.take 60).take 4 = Hm.ts) (hr : rdOk ((s.take 60).drop 4) = true) :
    Hm.decE s = 0 ∧ Hm.decG s = Om.at_ ((s.take 60).drop 4) Hm.zs 0 ∧ Hm.decC s = Om.at_ ((s.take 60).drop 4) Hm.zs 1 ∧ Hm.decP s = Om.at_ ((s.take 60).drop 4) Hm.zs 2 ∧ Hm.decB s = (Om.at_ ((s.take 60).drop 4) Hm.zs 3 == 1) := by
  unfold rdOk at hr
  rw [Bool.and_eq_true] at hr
  exact Hm.dec_ok s (Sc.op_ok h hg ht hr.1) hr.2
/-- The result's block, made first. -/
theorem result_made (w W0 : World) (h : w.alloc (.cells #[.int .u32 0, .int .i64 0, .int .i64 0, .bool false] 24) = W0) :
    Below w.heap.size w W0 ∧ W0.heap[w.heap.size]? = some (.cells #[.int .u32 0, .int .i64 0, .int .i64 0, .bool false] 24 (0, 0)) ∧ w.heap.size < W0.heap.size := by
  subst h
  have h1 := heap_alloc_new w (.cells #[.int .u32 0, .int .i64 0, .int .i64 0, .bool false] 24)
  exact ⟨(Below.refl _ w).alloc (Nat.le_refl _) _, h1, (Array.getElem?_eq_some_iff.1 h1).1⟩
theorem zero_cells {W : World} {g : Nat} {t : TypeId} (h : W.heap[g]? = some (.cells #[.int .u32 0, .int .i64 0, .int .i64 0, .bool false] t (0, 0))) :
    W.cell? ⟨g, 0, none⟩ = some (.int .u32 0) ∧ W.cell? ⟨g, 1, none⟩ = some (.int .i64 0) ∧ W.cell? ⟨g, 2, none⟩ = some (.int .i64 0) ∧ W.cell? ⟨g, 3, none⟩ = some (.bool false) ∧ ∀ j, W.frozen? ⟨g, j, none⟩ = false :=
  ⟨by rw [cell_of_row _ _ _ _ _ _ h]; rfl, by rw [cell_of_row _ _ _ _ _ _ h]; rfl, by rw [cell_of_row _ _ _ _ _ _ h]; rfl, by rw [cell_of_row _ _ _ _ _ _ h]; rfl, fun j => frozen_of_row (j := j) _ _ _ _ h⟩

theorem hdec_cut (s : List UInt8) (w : World) (h : s.length ≠ 64) : Calls Try.prog 11 #[.string (Om.B s)] w (HDec s w) := by
  have hne : (((Om.B s).size : Int) != 64) = true := by rw [bne_iff_ne, Om.B_size]; omega
  have HD := Lib.hid (Hm.dec_off s 21 (Sc.op_cut h) (by decide))
  obtain ⟨W0, hW0⟩ : ∃ W0, w.alloc (.cells #[.int .u32 0, .int .i64 0, .int .i64 0, .bool false] 24) = W0 := ⟨_, rfl⟩
  obtain ⟨hB, h0, lt⟩ := result_made w W0 hW0
  have HB := Lib.hid hB
  have H0 := Lib.hid h0
  have LT := Lib.hid lt
  obtain ⟨z0, z1, z2, z3, zf⟩ := zero_cells h0
  clear h hB h0 lt
  go_enter Try.func11, Try.ntmps11
  go_wp2
  refine bodyPost_ret (results_four (p := 2) (u := 3) rfl _ _ w.heap.size _ _ _ _ _ rfl rfl (four_set H0.out _ _ _ _)) rfl ?_
  exact hdec_none s w _ 21 HD.out (below_four HB.out (Nat.le_refl _) _ _ _ _)

theorem hdec_sum (s : List UInt8) (w : World) (h : s.length = 64) (hg : Cm.good s = false) : Calls Try.prog 11 #[.string (Om.B s)] w (HDec s w) := by
  have hne : (((Om.B s).size : Int) != 64) = false := by rw [bne_eq_false_iff_eq, Om.B_size]; omega
  have HD := Lib.hid (Hm.dec_off s 31 (Sc.op_sum h hg) (by decide))
  have hc := fun w1 => open_any s w1 (by omega) (by omega)
  rw [hg] at hc
  have C := Lib.hid hc
  obtain ⟨W0, hW0⟩ : ∃ W0, w.alloc (.cells #[.int .u32 0, .int .i64 0, .int .i64 0, .bool false] 24) = W0 := ⟨_, rfl⟩
  obtain ⟨hB, h0, lt⟩ := result_made w W0 hW0
  have HB := Lib.hid hB
  have H0 := Lib.hid h0
  have LT := Lib.hid lt
  clear h hB h0 lt hg hc
  go_enter Try.func11, Try.ntmps11
  go_wp2_with fail
  clear hW0
  refine (C.out _).mono ?_
  rintro e w1 ⟨he, hb⟩
  obtain rfl : e = .returned (.tuple #[.string (Om.B []), .int .i64 31]) := he
  have h1 := (hb.block _ LT.out).trans H0.out
  have H1 := Lib.hid h1
  have HB1 := Lib.hid (HB.out.trans (hb.mono HB.out.size))
  obtain ⟨z0, z1, z2, z3, zf⟩ := zero_cells h1
  clear hb h1
  go_wp2
  refine bodyPost_ret (results_four (p := 2) (u := 3) rfl _ _ w.heap.size _ _ _ _ _ rfl rfl (four_set H1.out _ _ _ _)) rfl ?_
  exact hdec_none s w _ 31 HD.out (below_four HB1.out (Nat.le_refl _) _ _ _ _)

theorem hdec_magic (s : List UInt8) (w : World) (h : s.length = 64) (hg : Cm.good s = true) (ht : (s.take 60).take 4 ≠ Hm.ts) : Calls Try.prog 11 #[.string (Om.B s)] w (HDec s w) := by
  have hne : (((Om.B s).size : Int) != 64) = false := by rw [bne_eq_false_iff_eq, Om.B_size]; omega
  have hc := fun w1 => open_any s w1 (by omega) (by omega)
  have hbl : (s.take 60).length = 60 := by rw [List.length_take]; omega
  rw [hg, h] at hc
  have HD := Lib.hid (Hm.dec_off s 22 (Sc.op_magic h hg ht) (by decide))
  obtain ⟨b, hb⟩ : ∃ b, b = s.take 60 := ⟨_, rfl⟩
  have hc' : ∀ w1, Calls Try.prog 20 #[.string (Om.B s)] w1 fun e w' => e = .returned (.tuple #[.string (Om.B b), .int .i64 0]) ∧ Below w1.heap.size w1 w' := fun w1 => by
    rw [hb]
    exact (hc w1).mono fun e w' h => h
  rw [← hb] at ht hbl
  have C := Lib.hid hc'
  have M := Lib.hid (fun w1 => cut_no b Hm.ts w1 (by rw [hbl]; decide) ht)
  have hts : Om.B Hm.ts = ⟨#[79, 65, 75, 72]⟩ := rfl
  rw [hts] at M
  obtain ⟨W0, hW0⟩ : ∃ W0, w.alloc (.cells #[.int .u32 0, .int .i64 0, .int .i64 0, .bool false] 24) = W0 := ⟨_, rfl⟩
  obtain ⟨hB, h0, lt⟩ := result_made w W0 hW0
  have HB := Lib.hid hB
  have H0 := Lib.hid h0
  have LT := Lib.hid lt
  clear h hB h0 lt hg hc hc' ht hb hts
  go_enter Try.func11, Try.ntmps11
  go_wp2_with fail
  clear hW0
  refine (C.out _).mono ?_
  rintro e w1 ⟨rfl, hb1⟩
  have h1 := (hb1.block _ LT.out).trans H0.out
  have H1 := Lib.hid h1
  have HB1 := Lib.hid (HB.out.trans (hb1.mono HB.out.size))
  obtain ⟨z0, z1, z2, z3, zf⟩ := zero_cells h1
  clear hb1 h1
  go_wp2_with fail
  refine (M.out _).mono ?_
  rintro e w2 ⟨rfl, rfl⟩
  go_wp2
  refine bodyPost_ret (results_four (p := 2) (u := 3) rfl _ _ w.heap.size _ _ _ _ _ rfl rfl (four_set H1.out _ _ _ _)) rfl ?_
  exact hdec_none s w _ 22 HD.out (below_four HB1.out (Nat.le_refl _) _ _ _ _)

theorem hdec_form (s : List UInt8) (w : World) (h : s.length = 64) (hg : Cm.good s = true) (ht : (s.take 60).take 4 = Hm.ts) (hr : rdOk ((s.take 60).drop 4) = false) : Calls Try.prog 11 #[.string (Om.B s)] w (HDec s w) := by
  have hne : (((Om.B s).size : Int) != 64) = false := by rw [bne_eq_false_iff_eq, Om.B_size]; omega
  have hc := fun w1 => open_any s w1 (by omega) (by omega)
  have hbl : (s.take 60).length = 60 := by rw [List.length_take]; omega
  rw [hg, h] at hc
  have HD := Lib.hid (rd_false s h hg ht hr)
  obtain ⟨b, hb⟩ : ∃ b, b = s.take 60 := ⟨_, rfl⟩
  have hc' : ∀ w1, Calls Try.prog 20 #[.string (Om.B s)] w1 fun e w' => e = .returned (.tuple #[.string (Om.B b), .int .i64 0]) ∧ Below w1.heap.size w1 w' := fun w1 => by
    rw [hb]
    exact (hc w1).mono fun e w' h => h
  rw [← hb] at ht hr hbl
  have C := Lib.hid hc'
  have M := Lib.hid (fun w1 => cut_yes b Hm.ts w1 (by rw [hbl]; decide) ht)
  have hts : Om.B Hm.ts = ⟨#[79, 65, 75, 72]⟩ := rfl
  rw [hts, show b.drop Hm.ts.length = b.drop 4 from rfl] at M
  obtain ⟨q, hq⟩ : ∃ q, q = b.drop 4 := ⟨_, rfl⟩
  have hql : q.length = 56 := by rw [hq, List.length_drop, hbl]
  rw [← hq] at M hr
  have R := Lib.hid (fun w1 => hread_any q w1 (by omega) (by omega))
  rw [hr] at R
  rw [rdV_no, show Hv 0 0 0 false = .agg #[.int .u32 0, .int .i64 0, .int .i64 0, .bool false] from rfl] at R
  obtain ⟨W0, hW0⟩ : ∃ W0, w.alloc (.cells #[.int .u32 0, .int .i64 0, .int .i64 0, .bool false] 24) = W0 := ⟨_, rfl⟩
  obtain ⟨hB, h0, lt⟩ := result_made w W0 hW0
  have HB := Lib.hid hB
  have H0 := Lib.hid h0
  have LT := Lib.hid lt
  clear h hB h0 lt hg hc hc' ht hb hts hbl hr hq
  go_enter Try.func11, Try.ntmps11
  go_wp2_with fail
  clear hW0
  refine (C.out _).mono ?_
  rintro e w1 ⟨rfl, hb1⟩
  have B1 := Lib.hid hb1
  clear hb1
  go_wp2_with fail
  refine (M.out _).mono ?_
  rintro e w2 ⟨rfl, rfl⟩
  go_wp2_with fail
  refine (R.out _).mono ?_
  rintro e w3 ⟨rfl, hb3⟩
  have B3 := Lib.hid (B1.out.trans (hb3.mono B1.out.size))
  clear hb3
  have hb4 : Below w3.heap.size w3 (w3.alloc (.cells #[.int .u32 0, .int .i64 0, .int .i64 0, .bool false] 24)) := (Below.refl _ _).alloc (Nat.le_refl _) _
  have B4 := Lib.hid (B3.out.trans (hb4.mono B3.out.size))
  have h4 := (B4.out.block _ LT.out).trans H0.out
  have H4 := Lib.hid h4
  have HB4 := Lib.hid (HB.out.trans (B4.out.mono HB.out.size))
  obtain ⟨z0, z1, z2, z3, zf⟩ := zero_cells h4
  clear hb4 h4
  go_wp2
  refine bodyPost_ret (results_four (p := 2) (u := 3) rfl _ _ w.heap.size _ _ _ _ _ rfl rfl (four_set H4.out _ _ _ _)) rfl ?_
  exact hdec_none s w _ 32 HD.out (below_four HB4.out (Nat.le_refl _) _ _ _ _)

theorem hdec_good (s : List UInt8) (w : World) (h : s.length = 64) (hg : Cm.good s = true) (ht : (s.take 60).take 4 = Hm.ts) (hr : rdOk ((s.take 60).drop 4) = true) : Calls Try.prog 11 #[.string (Om.B s)] w (HDec s w) := by
  have hne : (((Om.B s).size : Int) != 64) = false := by rw [bne_eq_false_iff_eq, Om.B_size]; omega
  have hc := fun w1 => open_any s w1 (by omega) (by omega)
  have hbl : (s.take 60).length = 60 := by rw [List.length_take]; omega
  rw [hg, h] at hc
  have HD := Lib.hid (rd_true s h hg ht hr)
  obtain ⟨b, hb⟩ : ∃ b, b = s.take 60 := ⟨_, rfl⟩
  have hc' : ∀ w1, Calls Try.prog 20 #[.string (Om.B s)] w1 fun e w' => e = .returned (.tuple #[.string (Om.B b), .int .i64 0]) ∧ Below w1.heap.size w1 w' := fun w1 => by
    rw [hb]
    exact (hc w1).mono fun e w' h => h
  rw [← hb] at ht hr HD hbl
  have C := Lib.hid hc'
  have M := Lib.hid (fun w1 => cut_yes b Hm.ts w1 (by rw [hbl]; decide) ht)
  have hts : Om.B Hm.ts = ⟨#[79, 65, 75, 72]⟩ := rfl
  rw [hts, show b.drop Hm.ts.length = b.drop 4 from rfl] at M
  obtain ⟨q, hq⟩ : ∃ q, q = b.drop 4 := ⟨_, rfl⟩
  have hql : q.length = 56 := by rw [hq, List.length_drop, hbl]
  rw [← hq] at M hr HD
  have R := Lib.hid (fun w1 => hread_any q w1 (by omega) (by omega))
  rw [hr] at R
  rw [rdV_yes] at R
  obtain ⟨n0, hn0⟩ : ∃ n, n = Om.at_ q Hm.zs 0 := ⟨_, rfl⟩
  obtain ⟨n1, hn1⟩ : ∃ n, n = Om.at_ q Hm.zs 1 := ⟨_, rfl⟩
  obtain ⟨n2, hn2⟩ : ∃ n, n = Om.at_ q Hm.zs 2 := ⟨_, rfl⟩
  obtain ⟨x3, hx3⟩ : ∃ x, x = (Om.at_ q Hm.zs 3 == 1) := ⟨_, rfl⟩
  rw [← hn0, ← hn1, ← hn2, ← hx3] at R HD
  unfold Hv at R
  obtain ⟨W0, hW0⟩ : ∃ W0, w.alloc (.cells #[.int .u32 0, .int .i64 0, .int .i64 0, .bool false] 24) = W0 := ⟨_, rfl⟩
  obtain ⟨hB, h0, lt⟩ := result_made w W0 hW0
  have HB := Lib.hid hB
  have H0 := Lib.hid h0
  have LT := Lib.hid lt
  clear h hB h0 lt hg hc hc' ht hb hts hbl hr hq hn0 hn1 hn2 hx3
  go_enter Try.func11, Try.ntmps11
  go_wp2_with fail
  clear hW0
  refine (C.out _).mono ?_
  rintro e w1 ⟨rfl, hb1⟩
  have B1 := Lib.hid hb1
  clear hb1
  go_wp2_with fail
  refine (M.out _).mono ?_
  rintro e w2 ⟨rfl, rfl⟩
  go_wp2_with fail
  refine (R.out _).mono ?_
  rintro e w3 ⟨rfl, hb3⟩
  have B3 := Lib.hid (B1.out.trans (hb3.mono B1.out.size))
  clear hb3
  have hb4 : Below w3.heap.size w3 (w3.alloc (.cells #[.int .u32 (n0 : Int), .int .i64 (n1 : Int), .int .i64 (n2 : Int), .bool x3] 24)) := (Below.refl _ _).alloc (Nat.le_refl _) _
  have B4 := Lib.hid (B3.out.trans (hb4.mono B3.out.size))
  have h4 := (B4.out.block _ LT.out).trans H0.out
  have H4 := Lib.hid h4
  have HB4 := Lib.hid (HB.out.trans (B4.out.mono HB.out.size))
  obtain ⟨z0, z1, z2, z3, zf⟩ := zero_cells h4
  obtain ⟨_, b0, b1, b2, b3⟩ := bx_alloc w3 n0 n1 n2 x3 24
  clear hb4 h4
  go_wp2
  refine bodyPost_ret (results_four (p := 2) (u := 3) rfl _ _ w.heap.size _ _ _ _ _ rfl rfl (four_set H4.out _ _ _ _)) rfl ?_
  exact hdec_some s w _ n0 n1 n2 x3 HD.out (below_four HB4.out (Nat.le_refl _) _ _ _ _)

/-- Decode, of any bytes. -/
theorem hdec_any (s : List UInt8) (w : World) : Calls Try.prog 11 #[.string (Om.B s)] w (HDec s w) := by
  by_cases h : s.length = 64
  · cases hg : Cm.good s with
    | false => exact hdec_sum s w h hg
    | true =>
      by_cases ht : (s.take 60).take 4 = Hm.ts
      · cases hr : rdOk ((s.take 60).drop 4) with
        | false => exact hdec_form s w h hg ht hr
        | true => exact hdec_good s w h hg ht hr
      · exact hdec_magic s w h hg ht
  · exact hdec_cut s w h
end Go.Proofs.Ytpocafiihdnnlaa
