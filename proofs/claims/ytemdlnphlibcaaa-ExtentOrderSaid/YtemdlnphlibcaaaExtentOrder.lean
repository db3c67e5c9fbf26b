/- The walk of ExtentOrder. -/
import Derived.Test.YtemdlnphlibcaaaExtSame
import Derived.Test.YtemdlnphlibcaaaExtOrd
namespace Go.Proofs.Ytemdlnphlibcaaa
namespace Xm
open Go.RowKit
set_option maxRecDepth 100000
set_option linter.unusedVariables false

theorem order_alive (s l m : Int) (n c : Nat) (p : Option Addr) (w : World) (hn : n ≤ 9223372036854775807) (h : 20 < n) :
    Calls Try.prog 5 #[.agg #[.int .i64 s, .int .i64 l], .slice p n c, .int .i64 m] w fun e w' => e = .returned (.bool true) ∧ Below w.heap.size w w' := by
  have AL := Lib.hid alive_any
  have HB := Lib.hid (below_new w (.cells #[.int .i64 s, .int .i64 l] 23))
  have d1 : decide ((n : Int) > 20) = true := by simp; omega
  have d2 : decide (20 < n) = true := by simp; omega
  clear h hn
  go_enter Try.func5, Try.ntmps5
  go_wp2_with fail
  refine (AL.out _).mono ?_
  rintro e w1 ⟨rfl, hb⟩
  have HB1 := Lib.hid (HB.out.trans (hb.mono HB.out.size))
  clear hb
  go_wp2_with fail
  go_ret
  exact ⟨rfl, HB1.out⟩

set_option maxHeartbeats 4000000 in
theorem order_none (s l m : Int) (u : List (Int × Int)) (n c : Nat) (p : Option Addr) (w : World) (hi : In u n) (hu : Exts w p u) (hn : n ≤ 20) (h0 : n = 0) :
    Calls Try.prog 5 #[.agg #[.int .i64 s, .int .i64 l], .slice p n c, .int .i64 m] w fun e w' => e = .returned (.bool true) ∧ Below w.heap.size w w' := by
  have AL := Lib.hid alive_any
  obtain ⟨i0, hi0, hz0, hz1, hz2⟩ := info_parts info_ext
  have PGu : Hid (∀ w1, Below w.heap.size w w1 → Calls Try.prog 7 #[.agg #[.int .i64 s, .int .i64 l], .slice p n c] w1 fun e w' => ∃ q d, e = .returned (.tuple #[.slice q (gapsR s l u).length d, .int .i64 (gapsE s l u)]) ∧ Exts w' q (gapsR s l u) ∧ Below w1.heap.size w1 w') := fun w1 hb => pgaps_any s l hi p c w1 (hu.next hb)
  have PGb : Hid (∀ w1 pb cb, Exts w1 pb u.reverse → Calls Try.prog 7 #[.agg #[.int .i64 s, .int .i64 l], .slice pb n cb] w1 fun e w' => ∃ q d, e = .returned (.tuple #[.slice q (gapsR s l u).length d, .int .i64 (gapsE s l u)]) ∧ Exts w' q (gapsR s l u) ∧ Below w1.heap.size w1 w') := fun w1 pb cb hb => by
    have := pgaps_any s l hi.turned pb cb w1 hb
    rwa [gapsR_turned, gapsE_turned] at this
  have PFu : Hid (∀ w1, Below w.heap.size w w1 → Calls Try.prog 9 #[.agg #[.int .i64 s, .int .i64 l], .int .i64 m, .slice p n c] w1 fun e w' => e = .returned (.tuple #[.agg #[.int .i64 (fitS s l m u), .int .i64 (fitL s l m u)], .int .i64 (fitE s l m u)]) ∧ Below w1.heap.size w1 w') := fun w1 hb => pfit_any s l m hi p c w1 (hu.next hb)
  have PFb : Hid (∀ w1 pb cb, Exts w1 pb u.reverse → Calls Try.prog 9 #[.agg #[.int .i64 s, .int .i64 l], .int .i64 m, .slice pb n cb] w1 fun e w' => e = .returned (.tuple #[.agg #[.int .i64 (fitS s l m u), .int .i64 (fitL s l m u)], .int .i64 (fitE s l m u)]) ∧ Below w1.heap.size w1 w') := fun w1 pb cb hb => by
    have := pfit_any s l m hi.turned pb cb w1 hb
    rwa [fitS_turned, fitL_turned, fitE_turned] at this
  have PR : Hid (∀ w1 q cc, (Exts w1 q u ∨ Exts w1 q u.reverse) → Calls Try.prog 12 #[.agg #[.int .i64 s, .int .i64 l], .slice q n cc] w1 fun e w' => e = .returned (.bool (okB s l u)) ∧ Below w1.heap.size w1 w') := fun w1 q cc hb => by
    rcases hb with hb | hb
    · exact pright_in s l hi q cc w1 hb
    · have := pright_in s l hi.turned q cc w1 hb
      rwa [okB_turned] at this
  have d5 : decide ((n : Int) > 0) = false := by simp; omega
  have d6 : decide (0 < n) = false := by simp; omega
  obtain ⟨N, hN⟩ : ∃ N, N = (gapsR s l u).length := ⟨_, rfl⟩
  have hN2 : N ≤ 9223372036854775807 := by rw [hN]; exact Nat.le_trans (gapsR_len s l u) (by omega)
  rw [← hN] at PGu PGb
  obtain ⟨gs, hgs⟩ : ∃ gs, gs = gapsR s l u := ⟨_, rfl⟩
  rw [← hgs] at PGu PGb hN
  obtain ⟨gE, hgE⟩ : ∃ gE, gE = gapsE s l u := ⟨_, rfl⟩
  rw [← hgE] at PGu PGb
  obtain ⟨fS, hfS⟩ : ∃ x, x = fitS s l m u := ⟨_, rfl⟩
  obtain ⟨fL, hfL⟩ : ∃ x, x = fitL s l m u := ⟨_, rfl⟩
  obtain ⟨fE, hfE⟩ : ∃ x, x = fitE s l m u := ⟨_, rfl⟩
  rw [← hfS, ← hfL, ← hfE] at PFu PFb
  obtain ⟨ok, hok⟩ : ∃ x, x = okB s l u := ⟨_, rfl⟩
  rw [← hok] at PR
  have HN := Lib.hid hN
  have HL := Lib.hid hi.size
  have HU := Lib.hid hu
  clear hN hgs hgE hfS hfL hfE hok
  have d1 : decide ((n : Int) > 20) = false := by simp; omega
  have d2 : decide (20 < n) = false := by simp; omega
  obtain ⟨W0, hW0⟩ : ∃ W0, w.alloc (.cells #[.int .i64 s, .int .i64 l] 23) = W0 := ⟨_, rfl⟩
  have hx : Bx W0 w.heap.size s l := by rw [← hW0]; exact Bx.new _ _ _
  have hsz : W0.heap.size = w.heap.size + 1 := by rw [← hW0]; simp
  have HB0 : Hid (Below w.heap.size w W0) := by rw [← hW0]; exact below_new _ _
  have HX0 := Lib.hid hx
  have e0 : IntKind.i64.wrap ((n : Int) - 1) = (n : Int) - 1 := IntWalk.i64_in _ (by omega)
  have HZ := Lib.hid h0
  clear hi hu hx h0
  go_enter Try.func5, Try.ntmps5
  go_wp2_with fail
  clear hW0
  go_loopw [7, 8] (fun v i wr => ∃ j : Nat, j ≤ n ∧ i = .int .i64 ((j : Int) - 1) ∧ Hid (wr.ownsRow (w.heap.size + 1) 23 2 v (n - j) (cells (u.drop j).reverse)) ∧ Hid (Below (w.heap.size + 1) W0 wr)) (fun _ i _ => (intOf i + 1).toNat)
  case atStart => exact ⟨n, Nat.le_refl _, rfl, Lib.hid (by rw [Nat.sub_self, List.drop_of_length_le (by have := HL.out; omega)]; exact World.ownsRow_nil _ _ _ _), Lib.hid (Below.refl _ _)⟩
  case round =>
    obtain ⟨j, hj, rfl, hrow, hbel⟩ := hrel
    have hwr : w.heap.size + 1 ≤ wr.heap.size := by have := hbel.out.size; omega
    cases j with
    | succ t =>
      rw [show ((t + 1 : Nat) : Int) - 1 = (t : Int) by omega]
      have htl : t < u.length := by have := HL.out; omega
      have hne : u ≠ [] := by intro e; rw [e] at htl; simp at htl
      have hbw : Below w.heap.size w wr := HB0.out.trans (hbel.out.mono (by omega))
      obtain ⟨b, off, hpe, hbl, hc⟩ := (HU.out.next hbw) hne
      subst hpe
      obtain ⟨r0, r1⟩ := hc t htl
      obtain ⟨⟨xa, xb⟩, hx⟩ : ∃ x, x = u[t] := ⟨_, rfl⟩
      rw [← hx] at r0 r1
      dsimp only at r0 r1
      have hdrop : (u.drop t).reverse = (u.drop (t + 1)).reverse ++ [(xa, xb)] := by rw [List.drop_eq_getElem_cons htl, List.reverse_cons, hx]
      obtain ⟨k, hk⟩ : ∃ k, k = n - (t + 1) := ⟨_, rfl⟩
      have hk2 : n - t = k + 1 := by omega
      rw [← hk] at hrow
      have HD := Lib.hid hdrop
      have HK2 := Lib.hid hk2
      have hkb : k ≤ 20 := by omega
      obtain ⟨pa, pc, rfl⟩ := ownsRow_cap hrow.out
      have HRW := Lib.hid hrow.out
      have HO : Hid (∀ r, (Value.slice pa k pc).ownBlock = some r → w.heap.size + 1 ≤ r) := fun r hr => own_from2 HRW.out r hr
      have dg : decide ((t : Int) ≥ 0) = true := by simp
      have dg3 : (t : Int) < (n : Int) := by omega
      have dg4 : decide ((t : Int) < (n : Int)) = true := by simp; omega
      have dg5 : decide (t < n) = true := by simp; omega
      have e2 : IntKind.i64.wrap ((t : Int) - 1) = (t : Int) - 1 := IntWalk.i64_in _ (by omega)
      clear hdrop hk hk2 hx hc hbl hne htl hrow hbw
      go_wp2_with (at_builtin; refine wpList_append_own _ rfl _ _ 24 rfl (w.heap.size + 1) 23 i0 _ 2 16 Try.underlying24 hi0 hz0 hz1 hz2 rfl (by decide) (.slice pa k pc) k (cells (u.drop (t + 1)).reverse) rfl (HRW.out.alloc _) ⟨wr.heap.size, 0, none⟩ 1 1 [.int .i64 xa, .int .i64 xb] rfl rfl (World.news_of_block (cs := #[.int .i64 xa, .int .i64 xb]) (heap_alloc_new wr _)) (by simp [Value.oneCell']) (by unfold maxLen; omega) (by omega) (by simp; omega) ?_)
      intro v' w3 hown hgrow hnil
      have HF3 : Hid (w3.ownsRow (w.heap.size + 1) 23 2 v' (n - t) (cells (u.drop t).reverse)) := Lib.hid (by rw [HD.out, cells_append, cells_one, HK2.out]; exact hown)
      have HB3 : Hid (Below (w.heap.size + 1) W0 w3) := (hbel.out.alloc hwr _).grown hgrow (by simp; omega) (fun j e => HO.out j e)
      clear hown hgrow hnil r0 r1
      go_wp2_with fail
      go_roundw
      case rel => exact ⟨t, by omega, rfl, HF3, HB3⟩
      case measure => simp [intOf] <;> omega
    | zero =>
      have dg : decide (((0 : Nat) : Int) - 1 ≥ 0) = false := by decide
      obtain ⟨pb, cb, rfl, hrow2⟩ := Exts.own (l := u.reverse) (v := u7) (by have := hrow.out; rw [List.drop_zero, Nat.sub_zero] at this; rw [List.length_reverse, ← HL.out]; exact this)
      have HB1 := Lib.hid (HB0.out.trans (hbel.out.mono (by omega)))
      have HX1 : Hid (Bx wr w.heap.size s l) := HX0.out.below hbel.out (by omega)
      have HK1 := Lib.hid hrow2
      rw [List.length_reverse, ← HL.out]
      clear hrow hbel hrow2 hj
      have c0 := HX1.out.c0
      have c1 := HX1.out.c1
      go_wp2_with fail
      refine (PGu.out _ HB1.out).mono ?_
      rintro e w1 ⟨q, d, rfl, hrow, hb⟩
      have HR1 := Lib.hid hrow
      have HB2 := Lib.hid (HB1.out.trans (hb.mono HB1.out.size))
      have HX2 := Lib.hid (HX1.out.next hb)
      have HK2 := Lib.hid (HK1.out.next hb)
      clear hrow hb c0 c1
      have c0 := HX2.out.c0
      have c1 := HX2.out.c1
      go_wp2_with fail
      refine (PGb.out _ _ _ HK2.out).mono ?_
      rintro e w2 ⟨q2, dd, rfl, hrow, hb⟩
      have HR2 := Lib.hid (HR1.out.next hb)
      have HQ2 := Lib.hid hrow
      have HB3 := Lib.hid (HB2.out.trans (hb.mono HB2.out.size))
      have HX3 := Lib.hid (HX2.out.next hb)
      have HK3 := Lib.hid (HK2.out.next hb)
      clear hrow hb c0 c1
      have c0 := HX3.out.c0
      have c1 := HX3.out.c1
      go_wp2_with fail
      refine (PFu.out _ HB3.out).mono ?_
      rintro e w3 ⟨rfl, hb⟩
      obtain ⟨W3, hW3⟩ : ∃ W3, w3.alloc (.cells #[.int .i64 fS, .int .i64 fL] 23) = W3 := ⟨_, rfl⟩
      have b1 : Below w3.heap.size w3 W3 := by rw [← hW3]; exact below_new _ _
      have EA : Hid (Bx W3 w3.heap.size fS fL) := by rw [← hW3]; exact Bx.new _ _ _
      have hb := hb.trans (b1.mono hb.size)
      have HR3 := Lib.hid (HR2.out.next hb)
      have HQ3 := Lib.hid (HQ2.out.next hb)
      have HB4 := Lib.hid (HB3.out.trans (hb.mono HB3.out.size))
      have HX4 := Lib.hid (HX3.out.next hb)
      have HK4 := Lib.hid (HK3.out.next hb)
      clear hb b1 c0 c1
      have c0 := HX4.out.c0
      have c1 := HX4.out.c1
      go_wp2_with fail
      clear hW3
      refine (PFb.out _ _ _ HK4.out).mono ?_
      rintro e w4 ⟨rfl, hb⟩
      obtain ⟨W4, hW4⟩ : ∃ W4, w4.alloc (.cells #[.int .i64 fS, .int .i64 fL] 23) = W4 := ⟨_, rfl⟩
      have b1 : Below w4.heap.size w4 W4 := by rw [← hW4]; exact below_new _ _
      have EB : Hid (Bx W4 w4.heap.size fS fL) := by rw [← hW4]; exact Bx.new _ _ _
      have hb := hb.trans (b1.mono hb.size)
      have EA4 := Lib.hid (EA.out.next hb)
      have HR4 := Lib.hid (HR3.out.next hb)
      have HQ4 := Lib.hid (HQ3.out.next hb)
      have HB5 := Lib.hid (HB4.out.trans (hb.mono HB4.out.size))
      have HX5 := Lib.hid (HX4.out.next hb)
      have HK5 := Lib.hid (HK4.out.next hb)
      have SM := Lib.hid (same_any (w := W4) gs N HN.out hN2 q q2 d dd HR4.out HQ4.out)
      clear hb b1 c0 c1
      go_wp2_with fail
      clear hW4
      refine SM.out.mono ?_
      rintro e w5 ⟨rfl, hb⟩
      have EA5 := Lib.hid (EA4.out.next hb)
      have EB5 := Lib.hid (EB.out.next hb)
      have HB6 := Lib.hid (HB5.out.trans (hb.mono HB5.out.size))
      have HX6 := Lib.hid (HX5.out.next hb)
      have HK6 := Lib.hid (HK5.out.next hb)
      clear hb SM
      have c0 := HX6.out.c0
      have c1 := HX6.out.c1
      have s0 := EA5.out.c0
      have s1 := EA5.out.c1
      have t0 := EB5.out.c0
      have t1 := EB5.out.c1
      have k1 := HX6.out.lt
      have k2 := EA5.out.lt
      have k3 := EB5.out.lt
      go_wp2_with fail
      go_region_held3 (fun w' => w'.cell? ⟨w.heap.size, 0, none⟩ = some (.int .i64 s) ∧ w'.cell? ⟨w.heap.size, 1, none⟩ = some (.int .i64 l) ∧ w'.cell? ⟨w3.heap.size, 0, none⟩ = some (.int .i64 fS) ∧ w'.cell? ⟨w3.heap.size, 1, none⟩ = some (.int .i64 fL) ∧ w'.cell? ⟨w4.heap.size, 0, none⟩ = some (.int .i64 fS) ∧ w'.cell? ⟨w4.heap.size, 1, none⟩ = some (.int .i64 fL))
        (first | go_keep | (refine ⟨?_, ?_, ?_, ?_, ?_, ?_⟩ <;> assumption) | (exact ⟨(BX.out.cell (p := ⟨w.heap.size, 0, none⟩) k1).trans c0, (BX.out.cell (p := ⟨w.heap.size, 1, none⟩) k1).trans c1, (BX.out.cell (p := ⟨w3.heap.size, 0, none⟩) k2).trans s0, (BX.out.cell (p := ⟨w3.heap.size, 1, none⟩) k2).trans s1, (BX.out.cell (p := ⟨w4.heap.size, 0, none⟩) k3).trans t0, (BX.out.cell (p := ⟨w4.heap.size, 1, none⟩) k3).trans t1⟩))
        (first | (go_at_call 6; refine (AL.out _).mono ?_; rintro e v1 ⟨rfl, hb⟩; have BX : Hid (Below w5.heap.size w5 v1) := (Below.refl _ _).drew.trans hb; clear hb) | (go_at_call 12; refine (PR.out _ _ _ (by first | exact .inl (HU.out.next (HB6.out.trans (BX.out.mono HB6.out.size))) | exact .inr (HK6.out.next BX.out))).mono ?_; rintro e v2 ⟨rfl, hb⟩; have BY := BX; have BX : Hid (Below w5.heap.size w5 v2) := BY.out.trans (hb.mono BY.out.size); clear hb))
      all_goals
        go_wp2_with fail
        go_ret
        exact ⟨rfl, HB6.out.trans (BX.out.mono HB6.out.size)⟩

set_option maxHeartbeats 4000000 in
theorem order_some (s l m : Int) (u : List (Int × Int)) (n c : Nat) (p : Option Addr) (w : World) (hi : In u n) (hu : Exts w p u) (hn : n ≤ 20) (h0 : 0 < n) :
    Calls Try.prog 5 #[.agg #[.int .i64 s, .int .i64 l], .slice p n c, .int .i64 m] w fun e w' => e = .returned (.bool true) ∧ Below w.heap.size w w' := by
  have AL := Lib.hid alive_any
  obtain ⟨i0, hi0, hz0, hz1, hz2⟩ := info_parts info_ext
  have PGu : Hid (∀ w1, Below w.heap.size w w1 → Calls Try.prog 7 #[.agg #[.int .i64 s, .int .i64 l], .slice p n c] w1 fun e w' => ∃ q d, e = .returned (.tuple #[.slice q (gapsR s l u).length d, .int .i64 (gapsE s l u)]) ∧ Exts w' q (gapsR s l u) ∧ Below w1.heap.size w1 w') := fun w1 hb => pgaps_any s l hi p c w1 (hu.next hb)
  have PGb : Hid (∀ w1 pb cb, Exts w1 pb u.reverse → Calls Try.prog 7 #[.agg #[.int .i64 s, .int .i64 l], .slice pb n cb] w1 fun e w' => ∃ q d, e = .returned (.tuple #[.slice q (gapsR s l u).length d, .int .i64 (gapsE s l u)]) ∧ Exts w' q (gapsR s l u) ∧ Below w1.heap.size w1 w') := fun w1 pb cb hb => by
    have := pgaps_any s l hi.turned pb cb w1 hb
    rwa [gapsR_turned, gapsE_turned] at this
  have PFu : Hid (∀ w1, Below w.heap.size w w1 → Calls Try.prog 9 #[.agg #[.int .i64 s, .int .i64 l], .int .i64 m, .slice p n c] w1 fun e w' => e = .returned (.tuple #[.agg #[.int .i64 (fitS s l m u), .int .i64 (fitL s l m u)], .int .i64 (fitE s l m u)]) ∧ Below w1.heap.size w1 w') := fun w1 hb => pfit_any s l m hi p c w1 (hu.next hb)
  have PFb : Hid (∀ w1 pb cb, Exts w1 pb u.reverse → Calls Try.prog 9 #[.agg #[.int .i64 s, .int .i64 l], .int .i64 m, .slice pb n cb] w1 fun e w' => e = .returned (.tuple #[.agg #[.int .i64 (fitS s l m u), .int .i64 (fitL s l m u)], .int .i64 (fitE s l m u)]) ∧ Below w1.heap.size w1 w') := fun w1 pb cb hb => by
    have := pfit_any s l m hi.turned pb cb w1 hb
    rwa [fitS_turned, fitL_turned, fitE_turned] at this
  have PR : Hid (∀ w1 q cc, (Exts w1 q u ∨ Exts w1 q u.reverse) → Calls Try.prog 12 #[.agg #[.int .i64 s, .int .i64 l], .slice q n cc] w1 fun e w' => e = .returned (.bool (okB s l u)) ∧ Below w1.heap.size w1 w') := fun w1 q cc hb => by
    rcases hb with hb | hb
    · exact pright_in s l hi q cc w1 hb
    · have := pright_in s l hi.turned q cc w1 hb
      rwa [okB_turned] at this
  have hne0 : u ≠ [] := by intro e; have := hi.size; rw [e] at this; simp at this; omega
  obtain ⟨⟨ya, yb⟩, hy⟩ : ∃ x, x = u[0]'(by have := hi.size; omega) := ⟨_, rfl⟩
  have PM : Hid (∀ w1 pb cb, Exts w1 pb (u ++ [(ya, yb)]) → Calls Try.prog 12 #[.agg #[.int .i64 s, .int .i64 l], .slice pb (n + 1) cb] w1 fun e w' => e = .returned (.bool false) ∧ Below w1.heap.size w1 w') := fun w1 pb cb hb => by
    have := pright_in s l (hi.more (x := (ya, yb)) (by rw [hy]; exact hi.small _ (List.getElem_mem _)) hn) pb cb w1 hb
    rwa [okB_again (by rw [hy]; exact List.getElem_mem _)] at this
  have HY : Hid (∀ h : 0 < u.length, u[0] = (ya, yb)) := fun _ => hy.symm
  have hls := cells_length u
  rw [← hi.size] at hls
  have HLS := Lib.hid hls
  have d5 : decide ((n : Int) > 0) = true := by simp; omega
  have d6 : decide (0 < n) = true := by simp; omega
  clear hy hls
  obtain ⟨N, hN⟩ : ∃ N, N = (gapsR s l u).length := ⟨_, rfl⟩
  have hN2 : N ≤ 9223372036854775807 := by rw [hN]; exact Nat.le_trans (gapsR_len s l u) (by omega)
  rw [← hN] at PGu PGb
  obtain ⟨gs, hgs⟩ : ∃ gs, gs = gapsR s l u := ⟨_, rfl⟩
  rw [← hgs] at PGu PGb hN
  obtain ⟨gE, hgE⟩ : ∃ gE, gE = gapsE s l u := ⟨_, rfl⟩
  rw [← hgE] at PGu PGb
  obtain ⟨fS, hfS⟩ : ∃ x, x = fitS s l m u := ⟨_, rfl⟩
  obtain ⟨fL, hfL⟩ : ∃ x, x = fitL s l m u := ⟨_, rfl⟩
  obtain ⟨fE, hfE⟩ : ∃ x, x = fitE s l m u := ⟨_, rfl⟩
  rw [← hfS, ← hfL, ← hfE] at PFu PFb
  obtain ⟨ok, hok⟩ : ∃ x, x = okB s l u := ⟨_, rfl⟩
  rw [← hok] at PR
  have HN := Lib.hid hN
  have HL := Lib.hid hi.size
  have HU := Lib.hid hu
  clear hN hgs hgE hfS hfL hfE hok
  have d1 : decide ((n : Int) > 20) = false := by simp; omega
  have d2 : decide (20 < n) = false := by simp; omega
  obtain ⟨W0, hW0⟩ : ∃ W0, w.alloc (.cells #[.int .i64 s, .int .i64 l] 23) = W0 := ⟨_, rfl⟩
  have hx : Bx W0 w.heap.size s l := by rw [← hW0]; exact Bx.new _ _ _
  have hsz : W0.heap.size = w.heap.size + 1 := by rw [← hW0]; simp
  have HB0 : Hid (Below w.heap.size w W0) := by rw [← hW0]; exact below_new _ _
  have HX0 := Lib.hid hx
  have e0 : IntKind.i64.wrap ((n : Int) - 1) = (n : Int) - 1 := IntWalk.i64_in _ (by omega)
  have HZ := Lib.hid h0
  clear hi hu hx h0
  go_enter Try.func5, Try.ntmps5
  go_wp2_with fail
  clear hW0
  go_loopw [7, 8] (fun v i wr => ∃ j : Nat, j ≤ n ∧ i = .int .i64 ((j : Int) - 1) ∧ Hid (wr.ownsRow (w.heap.size + 1) 23 2 v (n - j) (cells (u.drop j).reverse)) ∧ Hid (Below (w.heap.size + 1) W0 wr)) (fun _ i _ => (intOf i + 1).toNat)
  case atStart => exact ⟨n, Nat.le_refl _, rfl, Lib.hid (by rw [Nat.sub_self, List.drop_of_length_le (by have := HL.out; omega)]; exact World.ownsRow_nil _ _ _ _), Lib.hid (Below.refl _ _)⟩
  case round =>
    obtain ⟨j, hj, rfl, hrow, hbel⟩ := hrel
    have hwr : w.heap.size + 1 ≤ wr.heap.size := by have := hbel.out.size; omega
    cases j with
    | succ t =>
      rw [show ((t + 1 : Nat) : Int) - 1 = (t : Int) by omega]
      have htl : t < u.length := by have := HL.out; omega
      have hne : u ≠ [] := by intro e; rw [e] at htl; simp at htl
      have hbw : Below w.heap.size w wr := HB0.out.trans (hbel.out.mono (by omega))
      obtain ⟨b, off, hpe, hbl, hc⟩ := (HU.out.next hbw) hne
      subst hpe
      obtain ⟨r0, r1⟩ := hc t htl
      obtain ⟨⟨xa, xb⟩, hx⟩ : ∃ x, x = u[t] := ⟨_, rfl⟩
      rw [← hx] at r0 r1
      dsimp only at r0 r1
      have hdrop : (u.drop t).reverse = (u.drop (t + 1)).reverse ++ [(xa, xb)] := by rw [List.drop_eq_getElem_cons htl, List.reverse_cons, hx]
      obtain ⟨k, hk⟩ : ∃ k, k = n - (t + 1) := ⟨_, rfl⟩
      have hk2 : n - t = k + 1 := by omega
      rw [← hk] at hrow
      have HD := Lib.hid hdrop
      have HK2 := Lib.hid hk2
      have hkb : k ≤ 20 := by omega
      obtain ⟨pa, pc, rfl⟩ := ownsRow_cap hrow.out
      have HRW := Lib.hid hrow.out
      have HO : Hid (∀ r, (Value.slice pa k pc).ownBlock = some r → w.heap.size + 1 ≤ r) := fun r hr => own_from2 HRW.out r hr
      have dg : decide ((t : Int) ≥ 0) = true := by simp
      have dg3 : (t : Int) < (n : Int) := by omega
      have dg4 : decide ((t : Int) < (n : Int)) = true := by simp; omega
      have dg5 : decide (t < n) = true := by simp; omega
      have e2 : IntKind.i64.wrap ((t : Int) - 1) = (t : Int) - 1 := IntWalk.i64_in _ (by omega)
      clear hdrop hk hk2 hx hc hbl hne htl hrow hbw
      go_wp2_with (at_builtin; refine wpList_append_own _ rfl _ _ 24 rfl (w.heap.size + 1) 23 i0 _ 2 16 Try.underlying24 hi0 hz0 hz1 hz2 rfl (by decide) (.slice pa k pc) k (cells (u.drop (t + 1)).reverse) rfl (HRW.out.alloc _) ⟨wr.heap.size, 0, none⟩ 1 1 [.int .i64 xa, .int .i64 xb] rfl rfl (World.news_of_block (cs := #[.int .i64 xa, .int .i64 xb]) (heap_alloc_new wr _)) (by simp [Value.oneCell']) (by unfold maxLen; omega) (by omega) (by simp; omega) ?_)
      intro v' w3 hown hgrow hnil
      have HF3 : Hid (w3.ownsRow (w.heap.size + 1) 23 2 v' (n - t) (cells (u.drop t).reverse)) := Lib.hid (by rw [HD.out, cells_append, cells_one, HK2.out]; exact hown)
      have HB3 : Hid (Below (w.heap.size + 1) W0 w3) := (hbel.out.alloc hwr _).grown hgrow (by simp; omega) (fun j e => HO.out j e)
      clear hown hgrow hnil r0 r1
      go_wp2_with fail
      go_roundw
      case rel => exact ⟨t, by omega, rfl, HF3, HB3⟩
      case measure => simp [intOf] <;> omega
    | zero =>
      have dg : decide (((0 : Nat) : Int) - 1 ≥ 0) = false := by decide
      obtain ⟨pb, cb, rfl, hrow2⟩ := Exts.own (l := u.reverse) (v := u7) (by have := hrow.out; rw [List.drop_zero, Nat.sub_zero] at this; rw [List.length_reverse, ← HL.out]; exact this)
      have HB1 := Lib.hid (HB0.out.trans (hbel.out.mono (by omega)))
      have HX1 : Hid (Bx wr w.heap.size s l) := HX0.out.below hbel.out (by omega)
      have HK1 := Lib.hid hrow2
      rw [List.length_reverse, ← HL.out]
      clear hrow hbel hrow2 hj
      have c0 := HX1.out.c0
      have c1 := HX1.out.c1
      go_wp2_with fail
      refine (PGu.out _ HB1.out).mono ?_
      rintro e w1 ⟨q, d, rfl, hrow, hb⟩
      have HR1 := Lib.hid hrow
      have HB2 := Lib.hid (HB1.out.trans (hb.mono HB1.out.size))
      have HX2 := Lib.hid (HX1.out.next hb)
      have HK2 := Lib.hid (HK1.out.next hb)
      clear hrow hb c0 c1
      have c0 := HX2.out.c0
      have c1 := HX2.out.c1
      go_wp2_with fail
      refine (PGb.out _ _ _ HK2.out).mono ?_
      rintro e w2 ⟨q2, dd, rfl, hrow, hb⟩
      have HR2 := Lib.hid (HR1.out.next hb)
      have HQ2 := Lib.hid hrow
      have HB3 := Lib.hid (HB2.out.trans (hb.mono HB2.out.size))
      have HX3 := Lib.hid (HX2.out.next hb)
      have HK3 := Lib.hid (HK2.out.next hb)
      clear hrow hb c0 c1
      have c0 := HX3.out.c0
      have c1 := HX3.out.c1
      go_wp2_with fail
      refine (PFu.out _ HB3.out).mono ?_
      rintro e w3 ⟨rfl, hb⟩
      obtain ⟨W3, hW3⟩ : ∃ W3, w3.alloc (.cells #[.int .i64 fS, .int .i64 fL] 23) = W3 := ⟨_, rfl⟩
      have b1 : Below w3.heap.size w3 W3 := by rw [← hW3]; exact below_new _ _
      have EA : Hid (Bx W3 w3.heap.size fS fL) := by rw [← hW3]; exact Bx.new _ _ _
      have hb := hb.trans (b1.mono hb.size)
      have HR3 := Lib.hid (HR2.out.next hb)
      have HQ3 := Lib.hid (HQ2.out.next hb)
      have HB4 := Lib.hid (HB3.out.trans (hb.mono HB3.out.size))
      have HX4 := Lib.hid (HX3.out.next hb)
      have HK4 := Lib.hid (HK3.out.next hb)
      clear hb b1 c0 c1
      have c0 := HX4.out.c0
      have c1 := HX4.out.c1
      go_wp2_with fail
      clear hW3
      refine (PFb.out _ _ _ HK4.out).mono ?_
      rintro e w4 ⟨rfl, hb⟩
      obtain ⟨W4, hW4⟩ : ∃ W4, w4.alloc (.cells #[.int .i64 fS, .int .i64 fL] 23) = W4 := ⟨_, rfl⟩
      have b1 : Below w4.heap.size w4 W4 := by rw [← hW4]; exact below_new _ _
      have EB : Hid (Bx W4 w4.heap.size fS fL) := by rw [← hW4]; exact Bx.new _ _ _
      have hb := hb.trans (b1.mono hb.size)
      have EA4 := Lib.hid (EA.out.next hb)
      have HR4 := Lib.hid (HR3.out.next hb)
      have HQ4 := Lib.hid (HQ3.out.next hb)
      have HB5 := Lib.hid (HB4.out.trans (hb.mono HB4.out.size))
      have HX5 := Lib.hid (HX4.out.next hb)
      have HK5 := Lib.hid (HK4.out.next hb)
      have SM := Lib.hid (same_any (w := W4) gs N HN.out hN2 q q2 d dd HR4.out HQ4.out)
      clear hb b1 c0 c1
      go_wp2_with fail
      clear hW4
      refine SM.out.mono ?_
      rintro e w5 ⟨rfl, hb⟩
      have EA5 := Lib.hid (EA4.out.next hb)
      have EB5 := Lib.hid (EB.out.next hb)
      have HB6 := Lib.hid (HB5.out.trans (hb.mono HB5.out.size))
      have HX6 := Lib.hid (HX5.out.next hb)
      have HK6 := Lib.hid (HK5.out.next hb)
      clear hb SM
      obtain ⟨b, off, hpe, hbl, hc⟩ := (HU.out.next HB6.out) hne0
      subst hpe
      have hu0 : 0 < u.length := by have := HL.out; have := HZ.out; omega
      obtain ⟨r0, r1⟩ := hc 0 hu0
      rw [HY.out hu0] at r0 r1
      dsimp only at r0 r1
      have r0 : w5.cell? ⟨b, off, none⟩ = some (.int .i64 ya) := r0
      have r1 : w5.cell? ⟨b, off + 1, none⟩ = some (.int .i64 yb) := r1
      have HNE : Hid (∀ j v, (cells u)[j]? = some v → w5.cell? ⟨b, off + j, none⟩ = some v) := fun j v hv => by
        obtain ⟨b2, off2, e2, _, hh⟩ := (HU.out.next HB6.out).news hne0
        injection e2 with e2; injection e2 with e2 e3; subst e2 e3
        exact hh j v hv
      have W5 := HB6.out.size
      clear hc hu0
      go_wp2_with (at_builtin; refine wpList_append_own _ rfl _ _ 24 rfl w5.heap.size 23 i0 _ 2 16 Try.underlying24 hi0 hz0 hz1 hz2 rfl (by decide) _ _ _ rfl (World.ownsRow_made w5 #[] 0 (Nat.le_refl _) (Nat.zero_le _) (by simp)) ⟨b, off, none⟩ n c (cells u) rfl HLS.out (fun j v hj => Lib.cell?_alloc_some _ (by rw [Addr.add_lit]; exact HNE.out j v hj)) (cells_one' u) (by unfold maxLen; omega) (by omega) (by simp) ?_)
      intro va w6 hown hgrow hnil
      have hown : w6.ownsRow w5.heap.size 23 2 va n (cells u) := by simpa using hown
      have hb : Below w5.heap.size w5 w6 := (below_new w5 _).grown hgrow (by simp) (by intro k hk; simp [Value.ownBlock] at hk; omega)
      obtain ⟨pa, pc, rfl⟩ := ownsRow_cap hown
      have q0 := (hb.cell (p := ⟨b, off, none⟩) hbl).trans r0
      have q1 := (hb.cell (p := ⟨b, off + 1, none⟩) hbl).trans r1
      have HB7 := Lib.hid hb
      have HRW := Lib.hid hown
      have W6 := hb.size
      have HO : Hid (∀ r, (Value.slice pa n pc).ownBlock = some r → w5.heap.size ≤ r) := fun r hr => own_from2 HRW.out r hr
      clear hown hgrow hnil hb r0 r1 hbl
      have dz : (0 : Int) < (n : Int) := by have := HZ.out; omega
      go_wp2_with (at_builtin; refine wpList_append_own _ rfl _ _ 24 rfl w5.heap.size 23 i0 _ 2 16 Try.underlying24 hi0 hz0 hz1 hz2 rfl (by decide) (.slice pa n pc) n (cells u) rfl (HRW.out.alloc _) ⟨w6.heap.size, 0, none⟩ 1 1 [.int .i64 ya, .int .i64 yb] rfl rfl (World.news_of_block (cs := #[.int .i64 ya, .int .i64 yb]) (heap_alloc_new w6 _)) (by simp [Value.oneCell']) (by unfold maxLen; omega) (by omega) (by simp; omega) ?_)
      intro vb w7 hown hgrow hnil
      have hb : Below w5.heap.size w5 w7 := (HB7.out.alloc W6 _).grown hgrow (by simp; omega) (fun j e => HO.out j e)
      obtain ⟨pm, cm, rfl, hrow3⟩ := Exts.own (l := u ++ [(ya, yb)]) (v := vb) (by rw [List.length_append, List.length_singleton, ← HL.out, cells_append, cells_one]; exact hown)
      rw [List.length_append, List.length_singleton, ← HL.out]
      have HM := Lib.hid hrow3
      have EA5 := Lib.hid (EA5.out.next hb)
      have EB5 := Lib.hid (EB5.out.next hb)
      have HB6 := Lib.hid (HB6.out.trans (hb.mono HB6.out.size))
      have HX6 := Lib.hid (HX6.out.next hb)
      have HK6 := Lib.hid (HK6.out.next hb)
      clear hown hgrow hnil hb hrow3 q0 q1
      have c0 := HX6.out.c0
      have c1 := HX6.out.c1
      go_wp2_with fail
      refine (PM.out _ _ _ HM.out).mono ?_
      rintro e w8 ⟨rfl, hb⟩
      have EA5 := Lib.hid (EA5.out.next hb)
      have EB5 := Lib.hid (EB5.out.next hb)
      have HB6 := Lib.hid (HB6.out.trans (hb.mono HB6.out.size))
      have HX6 := Lib.hid (HX6.out.next hb)
      have HK6 := Lib.hid (HK6.out.next hb)
      clear hb c0 c1
      have c0 := HX6.out.c0
      have c1 := HX6.out.c1
      have s0 := EA5.out.c0
      have s1 := EA5.out.c1
      have t0 := EB5.out.c0
      have t1 := EB5.out.c1
      have k1 := HX6.out.lt
      have k2 := EA5.out.lt
      have k3 := EB5.out.lt
      go_wp2_with fail
      go_region_held3 (fun w' => w'.cell? ⟨w.heap.size, 0, none⟩ = some (.int .i64 s) ∧ w'.cell? ⟨w.heap.size, 1, none⟩ = some (.int .i64 l) ∧ w'.cell? ⟨w3.heap.size, 0, none⟩ = some (.int .i64 fS) ∧ w'.cell? ⟨w3.heap.size, 1, none⟩ = some (.int .i64 fL) ∧ w'.cell? ⟨w4.heap.size, 0, none⟩ = some (.int .i64 fS) ∧ w'.cell? ⟨w4.heap.size, 1, none⟩ = some (.int .i64 fL))
        (first | go_keep | (refine ⟨?_, ?_, ?_, ?_, ?_, ?_⟩ <;> assumption) | (exact ⟨(BX.out.cell (p := ⟨w.heap.size, 0, none⟩) k1).trans c0, (BX.out.cell (p := ⟨w.heap.size, 1, none⟩) k1).trans c1, (BX.out.cell (p := ⟨w3.heap.size, 0, none⟩) k2).trans s0, (BX.out.cell (p := ⟨w3.heap.size, 1, none⟩) k2).trans s1, (BX.out.cell (p := ⟨w4.heap.size, 0, none⟩) k3).trans t0, (BX.out.cell (p := ⟨w4.heap.size, 1, none⟩) k3).trans t1⟩))
        (first | (go_at_call 6; refine (AL.out _).mono ?_; rintro e v1 ⟨rfl, hb⟩; have BX : Hid (Below w8.heap.size w8 v1) := (Below.refl _ _).drew.trans hb; clear hb) | (go_at_call 12; refine (PR.out _ _ _ (by first | exact .inl (HU.out.next (HB6.out.trans (BX.out.mono HB6.out.size))) | exact .inr (HK6.out.next BX.out))).mono ?_; rintro e v2 ⟨rfl, hb⟩; have BY := BX; have BX : Hid (Below w8.heap.size w8 v2) := BY.out.trans (hb.mono BY.out.size); clear hb))
      all_goals
        go_wp2_with fail
        go_ret
        exact ⟨rfl, HB6.out.trans (BX.out.mono HB6.out.size)⟩
end Xm
end Go.Proofs.Ytemdlnphlibcaaa
