/- The contract of slot's Decode. -/
import Derived.Test.YtimfmmhbkgllpaaSlotRead
import Derived.Test.YtimfmmhbkgllpaaCutPrefix
namespace Go.Proofs.Ytimfmmhbkgllpaa
open Go.RowKit
set_option maxRecDepth 100000
set_option linter.unusedVariables false

/-- The slot that is told of any bytes. -/
def sdecV (s : List UInt8) : Value := Sv (Tm.decT s) (Tm.decA s) (Tm.decN s) (Tm.decG s)
/-- What is told of any bytes. -/
def SDec (s : List UInt8) (w : World) (e : Ending) (w' : World) : Prop := e = .returned (.tuple #[sdecV s, .int .i64 (Tm.decE s)]) ∧ Below w.heap.size w w'
theorem sdec_none (s : List UInt8) (w w' : World) (x : Int) (h : Tm.decE s = x ∧ Tm.decT s = 0 ∧ Tm.decA s = 0 ∧ Tm.decN s = 0 ∧ Tm.decG s = 0) (hb : Below w.heap.size w w') : SDec s w (.returned (.tuple #[.agg #[.int .i64 0, .int .i64 0, .int .i64 0, .int .u32 0], .int .i64 x])) w' :=
  ⟨by unfold sdecV; rw [h.1, h.2.1, h.2.2.1, h.2.2.2.1, h.2.2.2.2]; rfl, hb⟩
theorem sdec_some (s : List UInt8) (w w' : World) (t a n g : Nat) (h : Tm.decE s = 0 ∧ Tm.decT s = t ∧ Tm.decA s = a ∧ Tm.decN s = n ∧ Tm.decG s = g) (hb : Below w.heap.size w w') : SDec s w (.returned (.tuple #[.agg #[.int .i64 (t : Int), .int .i64 (a : Int), .int .i64 (n : Int), .int .u32 (g : Int)], .int .i64 0])) w' :=
  ⟨by unfold sdecV; rw [h.1, h.2.1, h.2.2.1, h.2.2.2.1, h.2.2.2.2]; rfl, hb⟩
theorem srd_false (s : List UInt8) (h : s.length = 64) (hg : Cm.good s = true) (ht : (s.take 60).take 4 = Tm.ts) (hr : srdOk ((s.take 60).drop 4) = false) : Tm.decE s = 32 ∧ Tm.decT s = 0 ∧ Tm.decA s = 0 ∧ Tm.decN s = 0 ∧ Tm.decG s = 0 := by
  unfold srdOk at hr
  cases hz : allZero (((s.take 60).drop 4).drop 13) with
  | false => exact Tm.dec_off s 32 (Sc.op_form h hg ht hz) (by decide)
  | true =>
    rw [hz, Bool.true_and] at hr
    exact Tm.dec_form s (Sc.op_ok h hg ht hz) hr
theorem srd_true (s : List UInt8) (h : s.length = 64) (hg : Cm.good s = true) (ht : (s.take 60).take 4 = Tm.ts) (hr : srdOk ((s.take 60).drop 4) = true) :
    Tm.decE s = 0 ∧ Tm.decT s = Om.at_ ((s.take 60).drop 4) Tm.zs 0 ∧ Tm.decA s = Om.at_ ((s.take 60).drop 4) Tm.zs 1 ∧ Tm.decN s = Om.at_ ((s.take 60).drop 4) Tm.zs 2 ∧ Tm.decG s = Om.at_ ((s.take 60).drop 4) Tm.zs 3 := by
  unfold srdOk at hr
  rw [Bool.and_eq_true] at hr
  exact Tm.dec_ok s (Sc.op_ok h hg ht hr.1) hr.2

theorem sdec_cut (s : List UInt8) (w : World) (h : s.length ≠ 64) : Calls Try.prog 11 #[.string (Om.B s)] w (SDec s w) := by
  have hne : (((Om.B s).size : Int) != 64) = true := by rw [bne_iff_ne, Om.B_size]; omega
  have HD := Lib.hid (Tm.dec_off s 21 (Sc.op_cut h) (by decide))
  obtain ⟨W0, hW0⟩ : ∃ W0, w.alloc (.cells #[.int .i64 0, .int .i64 0, .int .i64 0, .int .u32 0] 27) = W0 := ⟨_, rfl⟩
  obtain ⟨hB, h0, lt⟩ := sresult_made w W0 hW0
  have HB := Lib.hid hB
  have H0 := Lib.hid h0
  have LT := Lib.hid lt
  obtain ⟨z0, z1, z2, z3, zf⟩ := szero_cells h0
  clear h hB h0 lt
  go_enter Try.func11, Try.ntmps11
  go_wp2
  refine bodyPost_ret (results_slot (p := 2) (u := 3) rfl _ _ w.heap.size _ _ _ _ _ rfl rfl (four_set H0.out _ _ _ _)) rfl ?_
  exact sdec_none s w _ 21 HD.out (below_four HB.out (Nat.le_refl _) _ _ _ _)

theorem sdec_sum (s : List UInt8) (w : World) (h : s.length = 64) (hg : Cm.good s = false) : Calls Try.prog 11 #[.string (Om.B s)] w (SDec s w) := by
  have hne : (((Om.B s).size : Int) != 64) = false := by rw [bne_eq_false_iff_eq, Om.B_size]; omega
  have HD := Lib.hid (Tm.dec_off s 31 (Sc.op_sum h hg) (by decide))
  have hc := fun w1 => open_any s w1 (by omega) (by omega)
  rw [hg] at hc
  have C := Lib.hid hc
  obtain ⟨W0, hW0⟩ : ∃ W0, w.alloc (.cells #[.int .i64 0, .int .i64 0, .int .i64 0, .int .u32 0] 27) = W0 := ⟨_, rfl⟩
  obtain ⟨hB, h0, lt⟩ := sresult_made w W0 hW0
  have HB := Lib.hid hB
  have H0 := Lib.hid h0
  have LT := Lib.hid lt
  clear h hB h0 lt hg hc
  go_enter Try.func11, Try.ntmps11
  go_wp2_with fail
  clear hW0
  refine (C.out _).mono ?_
  rintro e w1 ⟨he, hb⟩
  obtain rfl : e = .returned (.tuple #[.string (Om.B []), .int .i64 31]) := he
  have h1 := (hb.block _ LT.out).trans H0.out
  have H1 := Lib.hid h1
  have HB1 := Lib.hid (HB.out.trans (hb.mono HB.out.size))
  obtain ⟨z0, z1, z2, z3, zf⟩ := szero_cells h1
  clear hb h1
  go_wp2
  refine bodyPost_ret (results_slot (p := 2) (u := 3) rfl _ _ w.heap.size _ _ _ _ _ rfl rfl (four_set H1.out _ _ _ _)) rfl ?_
  exact sdec_none s w _ 31 HD.out (below_four HB1.out (Nat.le_refl _) _ _ _ _)

theorem sdec_magic (s : List UInt8) (w : World) (h : s.length = 64) (hg : Cm.good s = true) (ht : (s.take 60).take 4 ≠ Tm.ts) : Calls Try.prog 11 #[.string (Om.B s)] w (SDec s w) := by
  have hne : (((Om.B s).size : Int) != 64) = false := by rw [bne_eq_false_iff_eq, Om.B_size]; omega
  have hc := fun w1 => open_any s w1 (by omega) (by omega)
  have hbl : (s.take 60).length = 60 := by rw [List.length_take]; omega
  rw [hg, h] at hc
  have HD := Lib.hid (Tm.dec_off s 22 (Sc.op_magic h hg ht) (by decide))
  obtain ⟨b, hb⟩ : ∃ b, b = s.take 60 := ⟨_, rfl⟩
  have hc' : ∀ w1, Calls Try.prog 19 #[.string (Om.B s)] w1 fun e w' => e = .returned (.tuple #[.string (Om.B b), .int .i64 0]) ∧ Below w1.heap.size w1 w' := fun w1 => by
    rw [hb]
    exact (hc w1).mono fun e w' h => h
  rw [← hb] at ht hbl
  have C := Lib.hid hc'
  have M := Lib.hid (fun w1 => cut_no b Tm.ts w1 (by rw [hbl]; decide) ht)
  have hts : Om.B Tm.ts = ⟨#[79, 65, 75, 83]⟩ := rfl
  rw [hts] at M
  obtain ⟨W0, hW0⟩ : ∃ W0, w.alloc (.cells #[.int .i64 0, .int .i64 0, .int .i64 0, .int .u32 0] 27) = W0 := ⟨_, rfl⟩
  obtain ⟨hB, h0, lt⟩ := sresult_made w W0 hW0
  have HB := Lib.hid hB
  have H0 := Lib.hid h0
  have LT := Lib.hid lt
  clear h hB h0 lt hg hc hc' ht hb hts
  go_enter Try.func11, Try.ntmps11
  go_wp2_with fail
  clear hW0
  refine (C.out _).mono ?_
  rintro e w1 ⟨rfl, hb1⟩
  have h1 := (hb1.block _ LT.out).trans H0.out
  have H1 := Lib.hid h1
  have HB1 := Lib.hid (HB.out.trans (hb1.mono HB.out.size))
  obtain ⟨z0, z1, z2, z3, zf⟩ := szero_cells h1
  clear hb1 h1
  go_wp2_with fail
  refine (M.out _).mono ?_
  rintro e w2 ⟨rfl, rfl⟩
  go_wp2
  refine bodyPost_ret (results_slot (p := 2) (u := 3) rfl _ _ w.heap.size _ _ _ _ _ rfl rfl (four_set H1.out _ _ _ _)) rfl ?_
  exact sdec_none s w _ 22 HD.out (below_four HB1.out (Nat.le_refl _) _ _ _ _)

theorem sdec_form (s : List UInt8) (w : World) (h : s.length = 64) (hg : Cm.good s = true) (ht : (s.take 60).take 4 = Tm.ts) (hr : srdOk ((s.take 60).drop 4) = false) : Calls Try.prog 11 #[.string (Om.B s)] w (SDec s w) := by
  have hne : (((Om.B s).size : Int) != 64) = false := by rw [bne_eq_false_iff_eq, Om.B_size]; omega
  have hc := fun w1 => open_any s w1 (by omega) (by omega)
  have hbl : (s.take 60).length = 60 := by rw [List.length_take]; omega
  rw [hg, h] at hc
  have HD := Lib.hid (srd_false s h hg ht hr)
  obtain ⟨b, hb⟩ : ∃ b, b = s.take 60 := ⟨_, rfl⟩
  have hc' : ∀ w1, Calls Try.prog 19 #[.string (Om.B s)] w1 fun e w' => e = .returned (.tuple #[.string (Om.B b), .int .i64 0]) ∧ Below w1.heap.size w1 w' := fun w1 => by
    rw [hb]
    exact (hc w1).mono fun e w' h => h
  rw [← hb] at ht hr hbl
  have C := Lib.hid hc'
  have M := Lib.hid (fun w1 => cut_yes b Tm.ts w1 (by rw [hbl]; decide) ht)
  have hts : Om.B Tm.ts = ⟨#[79, 65, 75, 83]⟩ := rfl
  rw [hts, show b.drop Tm.ts.length = b.drop 4 from rfl] at M
  obtain ⟨q, hq⟩ : ∃ q, q = b.drop 4 := ⟨_, rfl⟩
  have hql : q.length = 56 := by rw [hq, List.length_drop, hbl]
  rw [← hq] at M hr
  have R := Lib.hid (fun w1 => sread_any q w1 (by omega) (by omega))
  rw [hr] at R
  rw [srdV_no, show Sv 0 0 0 0 = .agg #[.int .i64 0, .int .i64 0, .int .i64 0, .int .u32 0] from rfl] at R
  obtain ⟨W0, hW0⟩ : ∃ W0, w.alloc (.cells #[.int .i64 0, .int .i64 0, .int .i64 0, .int .u32 0] 27) = W0 := ⟨_, rfl⟩
  obtain ⟨hB, h0, lt⟩ := sresult_made w W0 hW0
  have HB := Lib.hid hB
  have H0 := Lib.hid h0
  have LT := Lib.hid lt
  clear h hB h0 lt hg hc hc' ht hb hts hbl hr hq
  go_enter Try.func11, Try.ntmps11
  go_wp2_with fail
  clear hW0
  refine (C.out _).mono ?_
  rintro e w1 ⟨rfl, hb1⟩
  have B1 := Lib.hid hb1
  clear hb1
  go_wp2_with fail
  refine (M.out _).mono ?_
  rintro e w2 ⟨rfl, rfl⟩
  go_wp2_with fail
  refine (R.out _).mono ?_
  rintro e w3 ⟨rfl, hb3⟩
  have B3 := Lib.hid (B1.out.trans (hb3.mono B1.out.size))
  clear hb3
  have hb4 : Below w3.heap.size w3 (w3.alloc (.cells #[.int .i64 0, .int .i64 0, .int .i64 0, .int .u32 0] 27)) := (Below.refl _ _).alloc (Nat.le_refl _) _
  have B4 := Lib.hid (B3.out.trans (hb4.mono B3.out.size))
  have h4 := (B4.out.block _ LT.out).trans H0.out
  have H4 := Lib.hid h4
  have HB4 := Lib.hid (HB.out.trans (B4.out.mono HB.out.size))
  obtain ⟨z0, z1, z2, z3, zf⟩ := szero_cells h4
  clear hb4 h4
  go_wp2
  refine bodyPost_ret (results_slot (p := 2) (u := 3) rfl _ _ w.heap.size _ _ _ _ _ rfl rfl (four_set H4.out _ _ _ _)) rfl ?_
  exact sdec_none s w _ 32 HD.out (below_four HB4.out (Nat.le_refl _) _ _ _ _)

theorem sdec_good (s : List UInt8) (w : World) (h : s.length = 64) (hg : Cm.good s = true) (ht : (s.take 60).take 4 = Tm.ts) (hr : srdOk ((s.take 60).drop 4) = true) : Calls Try.prog 11 #[.string (Om.B s)] w (SDec s w) := by
  have hne : (((Om.B s).size : Int) != 64) = false := by rw [bne_eq_false_iff_eq, Om.B_size]; omega
  have hc := fun w1 => open_any s w1 (by omega) (by omega)
  have hbl : (s.take 60).length = 60 := by rw [List.length_take]; omega
  rw [hg, h] at hc
  have HD := Lib.hid (srd_true s h hg ht hr)
  obtain ⟨b, hb⟩ : ∃ b, b = s.take 60 := ⟨_, rfl⟩
  have hc' : ∀ w1, Calls Try.prog 19 #[.string (Om.B s)] w1 fun e w' => e = .returned (.tuple #[.string (Om.B b), .int .i64 0]) ∧ Below w1.heap.size w1 w' := fun w1 => by
    rw [hb]
    exact (hc w1).mono fun e w' h => h
  rw [← hb] at ht hr HD hbl
  have C := Lib.hid hc'
  have M := Lib.hid (fun w1 => cut_yes b Tm.ts w1 (by rw [hbl]; decide) ht)
  have hts : Om.B Tm.ts = ⟨#[79, 65, 75, 83]⟩ := rfl
  rw [hts, show b.drop Tm.ts.length = b.drop 4 from rfl] at M
  obtain ⟨q, hq⟩ : ∃ q, q = b.drop 4 := ⟨_, rfl⟩
  have hql : q.length = 56 := by rw [hq, List.length_drop, hbl]
  rw [← hq] at M hr HD
  have R := Lib.hid (fun w1 => sread_any q w1 (by omega) (by omega))
  rw [hr] at R
  rw [srdV_yes] at R
  obtain ⟨n0, hn0⟩ : ∃ n, n = Om.at_ q Tm.zs 0 := ⟨_, rfl⟩
  obtain ⟨n1, hn1⟩ : ∃ n, n = Om.at_ q Tm.zs 1 := ⟨_, rfl⟩
  obtain ⟨n2, hn2⟩ : ∃ n, n = Om.at_ q Tm.zs 2 := ⟨_, rfl⟩
  obtain ⟨n3, hn3⟩ : ∃ n, n = Om.at_ q Tm.zs 3 := ⟨_, rfl⟩
  rw [← hn0, ← hn1, ← hn2, ← hn3] at R HD
  unfold Sv at R
  obtain ⟨W0, hW0⟩ : ∃ W0, w.alloc (.cells #[.int .i64 0, .int .i64 0, .int .i64 0, .int .u32 0] 27) = W0 := ⟨_, rfl⟩
  obtain ⟨hB, h0, lt⟩ := sresult_made w W0 hW0
  have HB := Lib.hid hB
  have H0 := Lib.hid h0
  have LT := Lib.hid lt
  clear h hB h0 lt hg hc hc' ht hb hts hbl hr hq hn0 hn1 hn2 hn3
  go_enter Try.func11, Try.ntmps11
  go_wp2_with fail
  clear hW0
  refine (C.out _).mono ?_
  rintro e w1 ⟨rfl, hb1⟩
  have B1 := Lib.hid hb1
  clear hb1
  go_wp2_with fail
  refine (M.out _).mono ?_
  rintro e w2 ⟨rfl, rfl⟩
  go_wp2_with fail
  refine (R.out _).mono ?_
  rintro e w3 ⟨rfl, hb3⟩
  have B3 := Lib.hid (B1.out.trans (hb3.mono B1.out.size))
  clear hb3
  have hb4 : Below w3.heap.size w3 (w3.alloc (.cells #[.int .i64 (n0 : Int), .int .i64 (n1 : Int), .int .i64 (n2 : Int), .int .u32 (n3 : Int)] 27)) := (Below.refl _ _).alloc (Nat.le_refl _) _
  have B4 := Lib.hid (B3.out.trans (hb4.mono B3.out.size))
  have h4 := (B4.out.block _ LT.out).trans H0.out
  have H4 := Lib.hid h4
  have HB4 := Lib.hid (HB.out.trans (B4.out.mono HB.out.size))
  obtain ⟨z0, z1, z2, z3, zf⟩ := szero_cells h4
  obtain ⟨_, b0, b1, b2, b3⟩ := tx_alloc w3 n0 n1 n2 n3 27
  clear hb4 h4
  go_wp2
  refine bodyPost_ret (results_slot (p := 2) (u := 3) rfl _ _ w.heap.size _ _ _ _ _ rfl rfl (four_set H4.out _ _ _ _)) rfl ?_
  exact sdec_some s w _ n0 n1 n2 n3 HD.out (below_four HB4.out (Nat.le_refl _) _ _ _ _)

/-- Decode, of any bytes. -/
theorem sdec_any (s : List UInt8) (w : World) : Calls Try.prog 11 #[.string (Om.B s)] w (SDec s w) := by
  by_cases h : s.length = 64
  · cases hg : Cm.good s with
    | false => exact sdec_sum s w h hg
    | true =>
      by_cases ht : (s.take 60).take 4 = Tm.ts
      · cases hr : srdOk ((s.take 60).drop 4) with
        | false => exact sdec_form s w h hg ht hr
        | true => exact sdec_good s w h hg ht hr
      · exact sdec_magic s w h hg ht
  · exact sdec_cut s w h
/-- A slot's sector is decoded to it. -/
theorem sdec_back (t a n : Int) (g : Nat) (w : World) (hg : g < 4294967296) (h : Tm.okT t a n g = true) :
    Calls Try.prog 11 #[.string (Om.B (Tm.sector t a n g))] w fun e w' => e = .returned (.tuple #[Sv t a n g, .int .i64 0]) ∧ Below w.heap.size w w' :=
  (sdec_any (Tm.sector t a n g) w).mono fun e w' ⟨he, hb⟩ => by
    obtain ⟨h1, h2, h3, h4, h5⟩ := Tm.back t a n g hg h
    unfold sdecV at he
    rw [h1, h2, h3, h4, h5] at he
    exact ⟨he, hb⟩
theorem senc_right (t a n : Int) (g : Nat) (w : World) (hg : g < 4294967296) (h : Tm.okT t a n g = true) :
    Calls Try.prog 6 #[Sv t a n g] w fun e w' => e = .returned (.tuple #[.string (Om.B (Tm.sector t a n g)), .int .i64 0]) ∧ Below w.heap.size w w' := by
  have hs := Tm.okT_small h
  have := senc_any t a n g w (by omega) hg
  rw [(Tm.enc_ok h).1, (Tm.enc_ok h).2] at this
  exact this
end Go.Proofs.Ytimfmmhbkgllpaa
