/- The walk of ExtentTells. -/
import Derived.Test.YtemdlnphlibcaaaExtSame
namespace Go.Proofs.Ytemdlnphlibcaaa
namespace Xm
open Go.RowKit
set_option maxRecDepth 100000
set_option linter.unusedVariables false

/-- What goes on to the live question alone. -/
theorem tells_alive (s l m : Int) (n c : Nat) (p : Option Addr) (w : World) (hn : n ≤ 9223372036854775807) (h : 20 < n ∨ (n ≤ 20 ∧ 3000 < l ∧ l ≤ 1048576)) :
    Calls Try.prog 3 #[.agg #[.int .i64 s, .int .i64 l], .slice p n c, .int .i64 m] w fun e w' => e = .returned (.bool true) ∧ Below w.heap.size w w' := by
  have AL := Lib.hid alive_any
  have HB := Lib.hid (below_new w (.cells #[.int .i64 s, .int .i64 l] 23))
  have hx := Bx.new w s l
  have c0 := hx.c0
  have c1 := hx.c1
  clear hx
  rcases h with h | ⟨h, h1, h2⟩
  · have d1 : decide ((n : Int) > 20) = true := by simp; omega
    have d2 : decide (20 < n) = true := by simp; omega
    clear h hn
    go_enter Try.func3, Try.ntmps3
    go_wp2_with fail
    refine (AL.out _).mono ?_
    rintro e w1 ⟨rfl, hb⟩
    have HB1 := Lib.hid (HB.out.trans (hb.mono HB.out.size))
    clear hb c0 c1
    go_wp2_with fail
    go_ret
    exact ⟨rfl, HB1.out⟩
  · have d1 : decide ((n : Int) > 20) = false := by simp; omega
    have d2 : decide (20 < n) = false := by simp; omega
    have d3 : decide (l > 3000) = true := by simpa using h1
    have d4 : decide (l ≤ 1048576) = true := by simpa using h2
    clear h h1 h2 hn
    go_enter Try.func3, Try.ntmps3
    go_wp2_with fail
    refine (AL.out _).mono ?_
    rintro e w1 ⟨rfl, hb⟩
    have HB1 := Lib.hid (HB.out.trans (hb.mono HB.out.size))
    clear hb c0 c1
    go_wp2_with fail
    go_ret
    exact ⟨rfl, HB1.out⟩

set_option maxHeartbeats 4000000 in
theorem tells_all (s l m : Int) (u : List (Int × Int)) (n c : Nat) (p : Option Addr) (w : World) (hi : In u n) (hu : Exts w p u) (hn : n ≤ 20) (h : l ≤ 3000 ∨ 1048576 < l) :
    Calls Try.prog 3 #[.agg #[.int .i64 s, .int .i64 l], .slice p n c, .int .i64 m] w fun e w' => e = .returned (.bool true) ∧ Below w.heap.size w w' := by
  have AL := Lib.hid alive_any
  have PG : Hid (∀ w1, Below w.heap.size w w1 → Calls Try.prog 7 #[.agg #[.int .i64 s, .int .i64 l], .slice p n c] w1 fun e w' => ∃ q d, e = .returned (.tuple #[.slice q (gapsR s l u).length d, .int .i64 (gapsE s l u)]) ∧ Exts w' q (gapsR s l u) ∧ Below w1.heap.size w1 w') := fun w1 hb => pgaps_any s l hi p c w1 (hu.next hb)
  have RG : Hid (∀ w1, Below w.heap.size w w1 → Calls Try.prog 8 #[.agg #[.int .i64 s, .int .i64 l], .slice p n c] w1 fun e w' => ∃ q d, e = .returned (.tuple #[.slice q (gapsR s l u).length d, .int .i64 (gapsE s l u)]) ∧ Exts w' q (gapsR s l u) ∧ Below w1.heap.size w1 w') := fun w1 hb => rgaps_any s l hi p c w1 (hu.next hb)
  have PF : Hid (∀ w1, Below w.heap.size w w1 → Calls Try.prog 9 #[.agg #[.int .i64 s, .int .i64 l], .int .i64 m, .slice p n c] w1 fun e w' => e = .returned (.tuple #[.agg #[.int .i64 (fitS s l m u), .int .i64 (fitL s l m u)], .int .i64 (fitE s l m u)]) ∧ Below w1.heap.size w1 w') := fun w1 hb => pfit_any s l m hi p c w1 (hu.next hb)
  have RF : Hid (∀ w1, Below w.heap.size w w1 → Calls Try.prog 10 #[.agg #[.int .i64 s, .int .i64 l], .int .i64 m, .slice p n c] w1 fun e w' => e = .returned (.tuple #[.agg #[.int .i64 (fitS s l m u), .int .i64 (fitL s l m u)], .int .i64 (fitE s l m u)]) ∧ Below w1.heap.size w1 w') := fun w1 hb => rfit_any s l m hi p c w1 (hu.next hb)
  have PR : Hid (∀ w1, Below w.heap.size w w1 → Calls Try.prog 12 #[.agg #[.int .i64 s, .int .i64 l], .slice p n c] w1 fun e w' => e = .returned (.bool (okB s l u)) ∧ Below w1.heap.size w1 w') := fun w1 hb => pright_in s l hi p c w1 (hu.next hb)
  have RR : Hid (∀ w1, Below w.heap.size w w1 → Calls Try.prog 13 #[.agg #[.int .i64 s, .int .i64 l], .slice p n c] w1 fun e w' => e = .returned (.bool (okB s l u)) ∧ Below w1.heap.size w1 w') := fun w1 hb => rright_in s l hi p c w1 (hu.next hb)
  have PE : Hid (∀ w1, Below w.heap.size w w1 → Calls Try.prog 14 #[.agg #[.int .i64 s, .int .i64 l], .slice p n c] w1 fun e w' => e = .returned (.int .i64 (freeR s l u)) ∧ Below w1.heap.size w1 w') := fun w1 hb => pfree_any s l hi p c w1 (hu.next hb)
  have RE : Hid (∀ w1, Below w.heap.size w w1 → Calls Try.prog 15 #[.agg #[.int .i64 s, .int .i64 l], .slice p n c] w1 fun e w' => e = .returned (.int .i64 (freeR s l u)) ∧ Below w1.heap.size w1 w') := fun w1 hb => rfree_any s l hi p c w1 (hu.next hb)
  obtain ⟨N, hN⟩ : ∃ N, N = (gapsR s l u).length := ⟨_, rfl⟩
  have hN2 : N ≤ 9223372036854775807 := by
    rw [hN]; unfold gapsR
    by_cases ho : okB s l u = true
    · rw [if_pos ho]
      obtain ⟨_, _, _, h4⟩ := reg_iff.1 (ok_iff.1 ho).1
      have := gaps_len s l u; omega
    · rw [if_neg ho]; simp
  rw [← hN] at PG RG
  obtain ⟨gs, hgs⟩ : ∃ gs, gs = gapsR s l u := ⟨_, rfl⟩
  rw [← hgs] at PG RG hN
  obtain ⟨gE, hgE⟩ : ∃ gE, gE = gapsE s l u := ⟨_, rfl⟩
  rw [← hgE] at PG RG
  obtain ⟨fS, hfS⟩ : ∃ x, x = fitS s l m u := ⟨_, rfl⟩
  obtain ⟨fL, hfL⟩ : ∃ x, x = fitL s l m u := ⟨_, rfl⟩
  obtain ⟨fE, hfE⟩ : ∃ x, x = fitE s l m u := ⟨_, rfl⟩
  rw [← hfS, ← hfL, ← hfE] at PF RF
  obtain ⟨ok, hok⟩ : ∃ x, x = okB s l u := ⟨_, rfl⟩
  rw [← hok] at PR RR
  obtain ⟨fr, hfr⟩ : ∃ x, x = freeR s l u := ⟨_, rfl⟩
  rw [← hfr] at PE RE
  have HN := Lib.hid hN
  clear hN hgs hgE hfS hfL hfE hok hfr
  have d1 : decide ((n : Int) > 20) = false := by simp; omega
  have d2 : decide (20 < n) = false := by simp; omega
  have hG : decide (l > 3000) = false ∨ (decide (l > 3000) = true ∧ decide (l ≤ 1048576) = false) := by
    rcases h with h | h
    · exact .inl (by simpa using h)
    · exact .inr ⟨by simp; omega, by simpa using h⟩
  obtain ⟨W0, hW0⟩ : ∃ W0, w.alloc (.cells #[.int .i64 s, .int .i64 l] 23) = W0 := ⟨_, rfl⟩
  have hx : Bx W0 w.heap.size s l := by rw [← hW0]; exact Bx.new _ _ _
  have HB0 : Hid (Below w.heap.size w W0) := by rw [← hW0]; exact below_new _ _
  have HX0 := Lib.hid hx
  have c0 := hx.c0
  have c1 := hx.c1
  have hn63 : n ≤ 9223372036854775807 := by omega
  clear hi hu hn h hx
  rcases hG with d3 | ⟨d3, d4⟩
  all_goals
    go_enter Try.func3, Try.ntmps3
    go_wp2_with fail
    clear hW0
    refine (PG.out _ HB0.out).mono ?_
    rintro e w1 ⟨q, d, rfl, hrow, hb⟩
    have HR1 := Lib.hid hrow
    have HB1 := Lib.hid (HB0.out.trans (hb.mono HB0.out.size))
    have HX1 := Lib.hid (HX0.out.next hb)
    clear hrow hb c0 c1
    have c0 := HX1.out.c0
    have c1 := HX1.out.c1
    go_wp2_with fail
    refine (RG.out _ HB1.out).mono ?_
    rintro e w2 ⟨q2, dd, rfl, hrow, hb⟩
    have HR2 := Lib.hid (HR1.out.next hb)
    have HQ2 := Lib.hid hrow
    have HB2 := Lib.hid (HB1.out.trans (hb.mono HB1.out.size))
    have HX2 := Lib.hid (HX1.out.next hb)
    clear hrow hb c0 c1
    have c0 := HX2.out.c0
    have c1 := HX2.out.c1
    go_wp2_with fail
    refine (PF.out _ HB2.out).mono ?_
    rintro e w3 ⟨rfl, hb⟩
    obtain ⟨W3, hW3⟩ : ∃ W3, w3.alloc (.cells #[.int .i64 fS, .int .i64 fL] 23) = W3 := ⟨_, rfl⟩
    have b1 : Below w3.heap.size w3 W3 := by rw [← hW3]; exact below_new _ _
    have EA : Hid (Bx W3 w3.heap.size fS fL) := by rw [← hW3]; exact Bx.new _ _ _
    have hb := hb.trans (b1.mono hb.size)
    have HR3 := Lib.hid (HR2.out.next hb)
    have HQ3 := Lib.hid (HQ2.out.next hb)
    have HB3 := Lib.hid (HB2.out.trans (hb.mono HB2.out.size))
    have HX3 := Lib.hid (HX2.out.next hb)
    clear hb b1 c0 c1
    have c0 := HX3.out.c0
    have c1 := HX3.out.c1
    go_wp2_with fail
    clear hW3
    refine (RF.out _ HB3.out).mono ?_
    rintro e w4 ⟨rfl, hb⟩
    obtain ⟨W4, hW4⟩ : ∃ W4, w4.alloc (.cells #[.int .i64 fS, .int .i64 fL] 23) = W4 := ⟨_, rfl⟩
    have b1 : Below w4.heap.size w4 W4 := by rw [← hW4]; exact below_new _ _
    have EB : Hid (Bx W4 w4.heap.size fS fL) := by rw [← hW4]; exact Bx.new _ _ _
    have hb := hb.trans (b1.mono hb.size)
    have EA4 := Lib.hid (EA.out.next hb)
    have HR4 := Lib.hid (HR3.out.next hb)
    have HQ4 := Lib.hid (HQ3.out.next hb)
    have HB4 := Lib.hid (HB3.out.trans (hb.mono HB3.out.size))
    have HX4 := Lib.hid (HX3.out.next hb)
    have SM := Lib.hid (same_any (w := W4) gs N HN.out hN2 q q2 d dd HR4.out HQ4.out)
    clear hb b1 c0 c1
    go_wp2_with fail
    clear hW4
    refine SM.out.mono ?_
    rintro e w5 ⟨rfl, hb⟩
    have EA5 := Lib.hid (EA4.out.next hb)
    have EB5 := Lib.hid (EB.out.next hb)
    have HB5 := Lib.hid (HB4.out.trans (hb.mono HB4.out.size))
    have HX5 := Lib.hid (HX4.out.next hb)
    clear hb SM
    have c0 := HX5.out.c0
    have c1 := HX5.out.c1
    have s0 := EA5.out.c0
    have s1 := EA5.out.c1
    have t0 := EB5.out.c0
    have t1 := EB5.out.c1
    have k1 := HX5.out.lt
    have k2 := EA5.out.lt
    have k3 := EB5.out.lt
    go_wp2_with fail
    go_region_held3 (fun w' => w'.cell? ⟨w.heap.size, 0, none⟩ = some (.int .i64 s) ∧ w'.cell? ⟨w.heap.size, 1, none⟩ = some (.int .i64 l) ∧ w'.cell? ⟨w3.heap.size, 0, none⟩ = some (.int .i64 fS) ∧ w'.cell? ⟨w3.heap.size, 1, none⟩ = some (.int .i64 fL) ∧ w'.cell? ⟨w4.heap.size, 0, none⟩ = some (.int .i64 fS) ∧ w'.cell? ⟨w4.heap.size, 1, none⟩ = some (.int .i64 fL))
      (first | go_keep | (refine ⟨?_, ?_, ?_, ?_, ?_, ?_⟩ <;> assumption) | (exact ⟨(BX.out.cell (p := ⟨w.heap.size, 0, none⟩) k1).trans c0, (BX.out.cell (p := ⟨w.heap.size, 1, none⟩) k1).trans c1, (BX.out.cell (p := ⟨w3.heap.size, 0, none⟩) k2).trans s0, (BX.out.cell (p := ⟨w3.heap.size, 1, none⟩) k2).trans s1, (BX.out.cell (p := ⟨w4.heap.size, 0, none⟩) k3).trans t0, (BX.out.cell (p := ⟨w4.heap.size, 1, none⟩) k3).trans t1⟩))
      (first | (go_at_call 6; refine (AL.out _).mono ?_; rintro e v1 ⟨rfl, hb⟩; have BX : Hid (Below w5.heap.size w5 v1) := (Below.refl _ _).drew.trans hb; clear hb) | (go_at_call 12; refine (PR.out _ (HB5.out.trans (BX.out.mono HB5.out.size))).mono ?_; rintro e v2 ⟨rfl, hb⟩; have BY := BX; have BX : Hid (Below w5.heap.size w5 v2) := BY.out.trans (hb.mono BY.out.size); clear hb) | (go_at_call 13; refine (RR.out _ (HB5.out.trans (BX.out.mono HB5.out.size))).mono ?_; rintro e v3 ⟨rfl, hb⟩; have BY := BX; have BX : Hid (Below w5.heap.size w5 v3) := BY.out.trans (hb.mono BY.out.size); clear hb) | (go_at_call 14; refine (PE.out _ (HB5.out.trans (BX.out.mono HB5.out.size))).mono ?_; rintro e v4 ⟨rfl, hb⟩; have BY := BX; have BX : Hid (Below w5.heap.size w5 v4) := BY.out.trans (hb.mono BY.out.size); clear hb) | (go_at_call 15; refine (RE.out _ (HB5.out.trans (BX.out.mono HB5.out.size))).mono ?_; rintro e v5 ⟨rfl, hb⟩; have BY := BX; have BX : Hid (Below w5.heap.size w5 v5) := BY.out.trans (hb.mono BY.out.size); clear hb))
    all_goals
      go_wp2_with fail
      go_ret
      exact ⟨rfl, HB5.out.trans (BX.out.mono HB5.out.size)⟩
end Xm
end Go.Proofs.Ytemdlnphlibcaaa
