/- Contracts of the document's geometry: Right, Chunks, Span, Split. -/
import Derived.Test.YtkjlcjiegoillaaGeomPieces
import Derived.LoopTactic
import Derived.Deep.RegionLaw
namespace Go.Proofs.Ytkjlcjiegoillaa
namespace Geo
open Go.RowKit
set_option linter.unusedVariables false

theorem rright_any (o c : Int) (w : World) : Calls Try.prog 13 #[.int .i64 o, .int .i64 c] w fun e w' => e = .returned (.bool (Em.rightB o c)) ∧ w = w' := by
  by_cases h1 : 1 ≤ o
  · by_cases h2 : o ≤ 1048576
    · by_cases h3 : 1 ≤ c
      · have hr : Em.rightB o c = decide (c ≤ 128) := by unfold Em.rightB; simp [h1, h2, h3]
        have HR := Lib.hid hr
        clear hr
        go_enter Try.func13, Try.ntmps13
        go_wp2_with fail
        go_ret
        exact ⟨by rw [HR.out]; rfl, rfl⟩
      · have hr : Em.rightB o c = false := by unfold Em.rightB; simp [h1, h2, h3]
        have HR := Lib.hid hr
        clear hr
        have hd : decide (1 ≤ c) = false := by simpa using h3
        go_enter Try.func13, Try.ntmps13
        go_wp2_with fail
        go_ret
        exact ⟨by rw [HR.out]; rfl, rfl⟩
    · have hr : Em.rightB o c = false := by unfold Em.rightB; simp [h1, h2]
      have HR := Lib.hid hr
      clear hr
      have hd : decide (o ≤ 1048576) = false := by simpa using h2
      go_enter Try.func13, Try.ntmps13
      go_wp2_with fail
      go_ret
      exact ⟨by rw [HR.out]; rfl, rfl⟩
  · have hr : Em.rightB o c = false := by unfold Em.rightB; simp [h1]
    have HR := Lib.hid hr
    clear hr
    have hd : decide (1 ≤ o) = false := by simpa using h1
    go_enter Try.func13, Try.ntmps13
    go_wp2_with fail
    go_ret
    exact ⟨by rw [HR.out]; rfl, rfl⟩
theorem rchunks_any (o c : Int) (w : World) : Calls Try.prog 15 #[.int .i64 o, .int .i64 c] w fun e w' => e = .returned (.int .i64 (many o c)) ∧ w = w' := by
  have C := Lib.hid (rright_any o c w)
  cases hr : Em.rightB o c with
  | false =>
    rw [hr] at C
    have hm : many o c = 0 := by unfold many; rw [hr]; rfl
    rw [hm]
    clear hr hm
    go_enter Try.func15, Try.ntmps15
    go_wp2_with fail
    refine C.out.mono ?_
    rintro e w1 ⟨rfl, rfl⟩
    go_wp2_with fail
    go_ret
    exact ⟨rfl, rfl⟩
  | true =>
    rw [hr] at C
    obtain ⟨a, b, rfl, rfl, h1, h2, h3, h4⟩ := Em.right_nat hr
    rw [many_nat hr]
    have hpl := Em.parts_le a b
    have HP := Lib.hid (fun k => Em.parts_lt (n := a) (s := b) (k := k) (by omega))
    obtain ⟨p, hp⟩ : ∃ p, p = Em.parts a b := ⟨_, rfl⟩
    rw [← hp] at hpl ⊢
    simp only [← hp] at HP
    clear hr hp
    go_enter Try.func15, Try.ntmps15
    go_wp2_with fail
    refine C.out.mono ?_
    rintro e w1 ⟨rfl, rfl⟩
    clear C
    go_wp2_with fail
    go_loop [6] (fun i => ∃ k : Nat, k ≤ p ∧ i = .int .i64 k) (fun i => p - (intOf i).toNat)
    case atStart => exact ⟨0, Nat.zero_le _, rfl⟩
    case round =>
      obtain ⟨k, hk, rfl⟩ := hrel
      obtain ⟨q, hq⟩ : ∃ q, q = k * b := ⟨_, rfl⟩
      have hqi : (k : Int) * (b : Int) = (q : Int) := by rw [hq]; exact (Int.natCast_mul k b).symm
      have hql : q ≤ 134217728 := by
        have : k * b ≤ 1048576 * 128 := Nat.mul_le_mul (by omega) (by omega)
        omega
      by_cases hlt : k < p
      · have hqa : q < a := by rw [hq]; exact (HP.out k).1 hlt
        have hd : decide ((q : Int) < (a : Int)) = true := by simp; omega
        clear hq
        go_wp2_with fail
        go_round
        case rel => exact ⟨k + 1, by omega, by go_num⟩
        case measure => simp [intOf]; omega
      · have hqa : ¬ q < a := by rw [hq]; exact fun h => hlt ((HP.out k).2 h)
        have hd : decide ((q : Int) < (a : Int)) = false := by simp; omega
        have hkp : k = p := by omega
        subst hkp
        clear hq
        go_wp2_with fail
        go_ret
        exact ⟨rfl, rfl⟩

/-- What both spans tell. -/
def spanS (o c k : Int) : Int × Int := if refuse o c k 0 (many o c - 1) = 0 then (k * c, min c (o - k * c)) else (0, 0)
theorem span_any (o c k : Int) (w : World) : Calls Try.prog 7 #[.agg #[.int .i64 o, .int .i64 c], .int .i64 k] w fun e w' => e = .returned (.tuple #[.agg #[.int .i64 (spanS o c k).1, .int .i64 (spanS o c k).2], .int .i64 (refuse o c k 0 (many o c - 1))]) ∧ Below w.heap.size w w' := by
  by_cases h : refuse o c k 0 (many o c - 1) = 0
  · have hb : Em.rightB o c = true ∧ 0 ≤ k ∧ k ≤ many o c - 1 := by
      unfold refuse at h
      split at h
      · rename_i hr
        split at h
        · cases h
        · exact ⟨hr, by omega, by omega⟩
      · cases h
    obtain ⟨hr, h1, h2⟩ := hb
    have e : spanS o c k = (k * c, min c (o - k * c)) := by unfold spanS; rw [if_pos h]
    rw [e, h]
    obtain ⟨a, b, rfl, rfl, g1, g2, g3, g4⟩ := Em.right_nat hr
    obtain ⟨n, rfl⟩ : ∃ n : Nat, k = (n : Int) := ⟨k.toNat, by omega⟩
    rw [many_nat hr] at h2
    have hs := span_ok a b n w hr (by omega)
    have hlt := (Em.parts_lt (by omega : 0 < b)).1 (show n < Em.parts a b by omega)
    have e1 : ((n * b : Nat) : Int) = (n : Int) * (b : Int) := Int.natCast_mul n b
    have e2 : ((min b (a - n * b) : Nat) : Int) = min (b : Int) ((a : Int) - (n : Int) * (b : Int)) := by rw [← e1]; omega
    rw [e1, e2] at hs
    exact hs
  · have e : spanS o c k = (0, 0) := by unfold spanS; rw [if_neg h]
    rw [e]
    exact span_no o c k w h
theorem alloc_two (w : World) : (w.alloc (.cells #[.int .i64 0, .int .i64 0] 25)).heap[w.heap.size]? = some (.cells #[.int .i64 0, .int .i64 0] 25 (0, 0)) := heap_alloc_new _ _
theorem rspan_any (o c k : Int) (w : World) : Calls Try.prog 8 #[.int .i64 o, .int .i64 c, .int .i64 k] w fun e w' => e = .returned (.tuple #[.agg #[.int .i64 (spanS o c k).1, .int .i64 (spanS o c k).2], .int .i64 (refuse o c k 0 (many o c - 1))]) ∧ Below w.heap.size w w' := by
  have C := Lib.hid (rright_any o c)
  have D := Lib.hid (rchunks_any o c)
  have hml := many_le o c
  obtain ⟨W0, hW0⟩ : ∃ W0, w.alloc (.cells #[.int .i64 0, .int .i64 0] 25) = W0 := ⟨_, rfl⟩
  have hz : W0.heap[w.heap.size]? = some (.cells #[.int .i64 0, .int .i64 0] 25 (0, 0)) := by rw [← hW0]; exact alloc_two w
  cases hr : Em.rightB o c with
  | false =>
    have e1 : refuse o c k 0 (many o c - 1) = 1 := refuse_wrong hr
    have e2 : spanS o c k = (0, 0) := by unfold spanS; rw [e1]; rfl
    rw [e1, e2]
    rw [hr] at C
    clear hr e1 e2 D hml
    have HZ := Lib.hid hz
    have HB : Hid (Below w.heap.size w W0) := by rw [← hW0]; exact (Below.refl _ w).alloc (Nat.le_refl _) _
    have z0 : W0.cell? ⟨w.heap.size, 0, none⟩ = some (.int .i64 0) := by rw [cell_of_row _ _ _ _ _ _ hz]; rfl
    have z1 : W0.cell? ⟨w.heap.size, 1, none⟩ = some (.int .i64 0) := by rw [cell_of_row _ _ _ _ _ _ hz]; rfl
    have zf := fun j => frozen_of_row (j := j) _ _ _ _ hz
    clear hz
    go_enter Try.func8, Try.ntmps8
    go_wp2_with fail
    refine (C.out _).mono ?_
    rintro e w1 ⟨rfl, rfl⟩
    go_wp2_with fail
    refine bodyPost_ret (results_two (p := 6) (u := 7) rfl _ _ w.heap.size _ _ _ rfl rfl (two_set HZ.out _ _)) rfl ⟨rfl, ?_⟩
    exact (HB.out.setCell (p := ⟨w.heap.size, 0, none⟩) (Nat.le_refl _) _).setCell (p := ⟨w.heap.size, 1, none⟩) (Nat.le_refl _) _
  | true =>
    rw [hr] at C
    obtain ⟨m, hm⟩ : ∃ m, m = many o c := ⟨_, rfl⟩
    rw [← hm] at hml D
    by_cases h1 : k < 0
    · have e1 : refuse o c k 0 (many o c - 1) = 2 := refuse_out hr (.inl h1)
      have e2 : spanS o c k = (0, 0) := by unfold spanS; rw [e1]; rfl
      rw [e1, e2]
      have hd : decide (k < 0) = true := by simpa using h1
      clear hr e1 e2 D hml hm
      have HZ := Lib.hid hz
      have HB : Hid (Below w.heap.size w W0) := by rw [← hW0]; exact (Below.refl _ w).alloc (Nat.le_refl _) _
      have z0 : W0.cell? ⟨w.heap.size, 0, none⟩ = some (.int .i64 0) := by rw [cell_of_row _ _ _ _ _ _ hz]; rfl
      have z1 : W0.cell? ⟨w.heap.size, 1, none⟩ = some (.int .i64 0) := by rw [cell_of_row _ _ _ _ _ _ hz]; rfl
      have zf := fun j => frozen_of_row (j := j) _ _ _ _ hz
      clear hz
      go_enter Try.func8, Try.ntmps8
      go_wp2_with fail
      refine (C.out _).mono ?_
      rintro e w1 ⟨rfl, rfl⟩
      go_wp2_with fail
      refine bodyPost_ret (results_two (p := 6) (u := 7) rfl _ _ w.heap.size _ _ _ rfl rfl (two_set HZ.out _ _)) rfl ⟨rfl, ?_⟩
      exact (HB.out.setCell (p := ⟨w.heap.size, 0, none⟩) (Nat.le_refl _) _).setCell (p := ⟨w.heap.size, 1, none⟩) (Nat.le_refl _) _
    · by_cases h2 : m ≤ k
      · have e1 : refuse o c k 0 (many o c - 1) = 2 := refuse_out hr (.inr (by omega))
        have e2 : spanS o c k = (0, 0) := by unfold spanS; rw [e1]; rfl
        rw [e1, e2]
        have hd : decide (k < 0) = false := by simpa using h1
        have hd2 : decide (m ≤ k) = true := by simpa using h2
        clear hr e1 e2 hml hm
        have HZ := Lib.hid hz
        have HB : Hid (Below w.heap.size w W0) := by rw [← hW0]; exact (Below.refl _ w).alloc (Nat.le_refl _) _
        have z0 : W0.cell? ⟨w.heap.size, 0, none⟩ = some (.int .i64 0) := by rw [cell_of_row _ _ _ _ _ _ hz]; rfl
        have z1 : W0.cell? ⟨w.heap.size, 1, none⟩ = some (.int .i64 0) := by rw [cell_of_row _ _ _ _ _ _ hz]; rfl
        have zf := fun j => frozen_of_row (j := j) _ _ _ _ hz
        clear hz
        go_enter Try.func8, Try.ntmps8
        go_wp2_with fail
        refine (C.out _).mono ?_
        rintro e w1 ⟨rfl, rfl⟩
        go_wp2_with fail
        refine (D.out _).mono ?_
        rintro e w1 ⟨rfl, rfl⟩
        go_wp2_with fail
        refine bodyPost_ret (results_two (p := 6) (u := 7) rfl _ _ w.heap.size _ _ _ rfl rfl (two_set HZ.out _ _)) rfl ⟨rfl, ?_⟩
        exact (HB.out.setCell (p := ⟨w.heap.size, 0, none⟩) (Nat.le_refl _) _).setCell (p := ⟨w.heap.size, 1, none⟩) (Nat.le_refl _) _
      · have e1 : refuse o c k 0 (many o c - 1) = 0 := refuse_ok hr (by omega) (by omega)
        have e2 : spanS o c k = (k * c, min c (o - k * c)) := by unfold spanS; rw [if_pos e1]
        rw [e1, e2]
        obtain ⟨a, b, rfl, rfl, g1, g2, g3, g4⟩ := Em.right_nat hr
        obtain ⟨n, rfl⟩ : ∃ n : Nat, k = (n : Int) := ⟨k.toNat, by omega⟩
        have hmn := many_nat hr
        have hlt := (Em.parts_lt (by omega : 0 < b)).1 (show n < Em.parts a b by omega)
        obtain ⟨q, hq⟩ : ∃ q, q = n * b := ⟨_, rfl⟩
        rw [← hq] at hlt
        have hqi : (n : Int) * (b : Int) = (q : Int) := by rw [hq]; exact (Int.natCast_mul n b).symm
        dsimp only
        rw [hqi]
        have hd : decide ((n : Int) < 0) = false := by simp
        have hd2 : decide (m ≤ (n : Int)) = false := by simp; omega
        clear hr e1 e2 hml hm hmn hq h1 h2
        by_cases hf : b ≤ a - q
        · have hfi : (b : Int) ≤ (a : Int) - (q : Int) := by omega
          have E := Lib.hid (show min (b : Int) ((a : Int) - (q : Int)) = (b : Int) by omega)
          have HZ := Lib.hid hz
          have HB : Hid (Below w.heap.size w W0) := by rw [← hW0]; exact (Below.refl _ w).alloc (Nat.le_refl _) _
          have z0 : W0.cell? ⟨w.heap.size, 0, none⟩ = some (.int .i64 0) := by rw [cell_of_row _ _ _ _ _ _ hz]; rfl
          have z1 : W0.cell? ⟨w.heap.size, 1, none⟩ = some (.int .i64 0) := by rw [cell_of_row _ _ _ _ _ _ hz]; rfl
          have zf := fun j => frozen_of_row (j := j) _ _ _ _ hz
          clear hz
          go_enter Try.func8, Try.ntmps8
          go_wp2_with fail
          refine (C.out _).mono ?_
          rintro e w1 ⟨rfl, rfl⟩
          go_wp2_with fail
          refine (D.out _).mono ?_
          rintro e w1 ⟨rfl, rfl⟩
          go_wp2_with fail
          refine bodyPost_ret (results_two (p := 6) (u := 7) rfl _ _ w.heap.size _ _ _ rfl rfl (two_set HZ.out _ _)) rfl ⟨by rw [E.out]; rfl, ?_⟩
          exact (HB.out.setCell (p := ⟨w.heap.size, 0, none⟩) (Nat.le_refl _) _).setCell (p := ⟨w.heap.size, 1, none⟩) (Nat.le_refl _) _
        · have hfi : (a : Int) - (q : Int) < (b : Int) := by omega
          have E := Lib.hid (show min (b : Int) ((a : Int) - (q : Int)) = (a : Int) - (q : Int) by omega)
          have HZ := Lib.hid hz
          have HB : Hid (Below w.heap.size w W0) := by rw [← hW0]; exact (Below.refl _ w).alloc (Nat.le_refl _) _
          have z0 : W0.cell? ⟨w.heap.size, 0, none⟩ = some (.int .i64 0) := by rw [cell_of_row _ _ _ _ _ _ hz]; rfl
          have z1 : W0.cell? ⟨w.heap.size, 1, none⟩ = some (.int .i64 0) := by rw [cell_of_row _ _ _ _ _ _ hz]; rfl
          have zf := fun j => frozen_of_row (j := j) _ _ _ _ hz
          clear hz
          go_enter Try.func8, Try.ntmps8
          go_wp2_with fail
          refine (C.out _).mono ?_
          rintro e w1 ⟨rfl, rfl⟩
          go_wp2_with fail
          refine (D.out _).mono ?_
          rintro e w1 ⟨rfl, rfl⟩
          go_wp2_with fail
          refine bodyPost_ret (results_two (p := 6) (u := 7) rfl _ _ w.heap.size _ _ _ rfl rfl (two_set HZ.out _ _)) rfl ⟨by rw [E.out]; rfl, ?_⟩
          exact (HB.out.setCell (p := ⟨w.heap.size, 0, none⟩) (Nat.le_refl _) _).setCell (p := ⟨w.heap.size, 1, none⟩) (Nat.le_refl _) _
end Geo
end Go.Proofs.Ytkjlcjiegoillaa
