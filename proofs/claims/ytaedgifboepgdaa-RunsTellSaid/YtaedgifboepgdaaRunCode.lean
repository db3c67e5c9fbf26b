/- Contracts of runs' right and length, and of a copy of exceptions. -/
import Derived.Test.YtaedgifboepgdaaRunMem
import Derived.Test.YtaedgifboepgdaaProg
import Derived.WalkKit
import Derived.OwnWalk
import Derived.Below
import Derived.Laws.Rows
import Derived.Laws.OwnMore
import Derived.Laws.NewBlocks
import Derived.Lib.Hide
import Derived.Deep.QuietTactic
import Derived.BigQuiet
import Derived.RegionTactic
import Derived.StillTailTactics
import Derived.Deep.RegionHeld3
import Derived.WalkSpells
import Derived.WalkLawsBesides
import Derived.Outline
import Derived.LoopTactic
import Derived.WalkMore
namespace Go.Proofs.Ytaedgifboepgdaa
namespace Rn
open Go.RowKit Dsk Tb
set_option linter.unusedVariables false
set_option maxRecDepth 100000

theorem right_any {m : Int} {l : List E} {n c : Nat} (hin : In m l n c) (a : Option Addr) (w : World) (hrow : REnts w a l) :
    Calls Try.prog 13 #[.int .i64 m, .slice a n c] w fun e w' => e = .returned (.bool (rightB m l)) ∧ Below w.heap.size w w' := by
  have HN := Lib.hid hin.len
  have HB := hin.bytes
  have HX := Lib.hid hrow
  cases hm : decide (1 ≤ m) with
  | false =>
    have d1 : decide (m < 1) = true := by simp at hm ⊢; omega
    have HR : Hid (rightB m l = false) := by refine Lib.hid ?_; unfold rightB; rw [hm]; rfl
    clear hin hrow hm
    go_enter Try.func13, Try.ntmps13
    go_wp2
    go_ret
    exact ⟨by rw [HR.out]; rfl, Below.refl _ _⟩
  | true =>
    have d1 : decide (m < 1) = false := by simp at hm ⊢; omega
    have HR : Hid (∀ b, ordB l n = b → rightB m l = b) := by refine Lib.hid fun b e => ?_; unfold rightB; rw [hm, ← HN.out, e]; rfl
    clear hin hrow hm
    go_enter Try.func13, Try.ntmps13
    go_wp2
    go_loopw [5, 12] (fun v i wr => ∃ (k : Nat) (x : Int), k ≤ n ∧ v = .int .i64 x ∧ i = .int .i64 k ∧ Hid (x = la l k) ∧ Hid (ordB l k = true) ∧ Hid (Below w.heap.size w wr)) (fun _ i _ => n - (numOf i).toNat)
    case atStart => exact ⟨0, -1, Nat.zero_le _, rfl, rfl, Lib.hid rfl, Lib.hid rfl, Lib.hid (Below.refl _ _)⟩
    case round =>
      obtain ⟨k, x, hk, rfl, rfl, hx, ho, hw⟩ := hrel
      by_cases hlt : k < n
      · have t1 : decide ((k : Int) < (n : Int)) = true := by simp; omega
        have t2 : decide (k < n) = true := by simp; omega
        have hkl : k < l.length := by have := HN.out; omega
        obtain ⟨b, off, h1, c0, c1⟩ := HX.out.get hw.out hkl
        subst h1
        obtain ⟨y, hy⟩ : ∃ y, y = l[k].1 := ⟨_, rfl⟩
        obtain ⟨z, hz⟩ : ∃ z, z = l[k].2 := ⟨_, rfl⟩
        rw [← hy] at c0
        rw [← hz] at c1
        have HY : Hid (y = la l (k + 1)) := Lib.hid (by rw [la_succ hkl]; exact hy)
        have hk0 : (0 : Int) ≤ (k : Int) := by omega
        have hk1 : (k : Int) < (n : Int) := by omega
        have hw1 : IntKind.i64.wrap ((k : Int) + 1) = ((k + 1 : Nat) : Int) := by rw [IntWalk.i64_in _ (by omega)]; rfl
        have HW2 := Lib.hid ((hw.out).trans ((below_new wr (.cells #[.int .i64 y, .int .i64 z] 36)).mono hw.out.size))
        clear hy hz hkl
        by_cases hyx : y ≤ x
        · have t3 : decide (y ≤ x) = true := by simpa using hyx
          have HF : Hid (ordB l n = false) := Lib.hid (ordB_not (k := k) (by omega) (by rw [← HY.out, ← hx.out]; omega))
          clear hyx
          go_wp2
          go_ret
          exact ⟨by rw [HR.out _ HF.out]; rfl, HW2.out⟩
        · have t3 : decide (y ≤ x) = false := by simpa using hyx
          have HO : Hid (ordB l (k + 1) = true) := Lib.hid (by rw [ordB_succ, ho.out, ← HY.out, ← hx.out]; simp; omega)
          clear hyx
          go_wp2
          go_roundw
          case rel => exact ⟨k + 1, y, by omega, rfl, by go_num, HY, HO, HW2⟩
          case measure => simp [numOf]; omega
      · obtain rfl : k = n := by omega
        have t1 : decide ((k : Int) < (k : Int)) = false := by simp
        have t2 : decide (k < k) = false := by simp
        go_wp2
        go_ret
        exact ⟨by rw [HR.out _ ho.out]; rfl, hw.out⟩

/-- How long the first run is. -/
theorem length_any {m : Int} {l : List E} {n c : Nat} (hin : In m l n c) (hm1 : 1 ≤ m) (hpos : ∀ x ∈ l, 0 ≤ x.1) (hne : l ≠ []) (a : Option Addr) (w : World) (hrow : REnts w a l) :
    Calls Try.prog 18 #[.int .i64 m, .slice a n c] w fun e w' => ∃ k : Nat, e = .returned (.int .i64 (k : Int)) ∧ Fst m l k ∧ Below w.heap.size w w' := by
  have HN := Lib.hid hin.len
  have HB := hin.bytes
  have HX := Lib.hid hrow
  have HM := hin.m1
  have HS : Hid (∀ i (h : i < l.length), 0 ≤ l[i].1 ∧ l[i].1 ≤ 9223372036854775807) := Lib.hid fun i h => ⟨hpos _ (List.getElem_mem h), (hin.get h).2⟩
  have H0 := Lib.hid (Cnt.start hm1 hne)
  clear hin hrow hpos hne
  go_enter Try.func18, Try.ntmps18
  go_wp2
  go_step3
  go_wp2
  go_step3
  go_wp2
  go_loopw [5] (fun i wr => ∃ k : Nat, i = .int .i64 k ∧ Hid (Cnt m l k) ∧ Hid (Below w.heap.size w wr)) (fun i _ => n - (numOf i).toNat)
  case atStart => exact ⟨1, rfl, H0, Lib.hid (Below.refl _ _)⟩
  case round =>
    obtain ⟨k, rfl, hcn, hw⟩ := hrel
    have hk1 := hcn.out.1
    have hk2 := hcn.out.2.1
    have hk3 := hcn.out.2.2.1
    by_cases hlt : k < n
    · have t1 : decide ((k : Int) < (n : Int)) = true := by simp; omega
      have t2 : decide (k < n) = true := by simp; omega
      have hkl : k < l.length := by have := HN.out; omega
      by_cases hkm : (k : Int) = m
      · have t3 : ((k : Int) == m) = true := by simpa using hkm
        have HF := Lib.hid (hcn.out.most hkl hkm)
        clear hkm hkl
        go_wp2
        (try rw [Exit.noGoto_ret]); go_ret
        exact ⟨k, rfl, HF.out, hw.out⟩
      · have t3 : ((k : Int) == m) = false := by simpa using hkm
        obtain ⟨j, hj⟩ : ∃ j, k = j + 1 := ⟨k - 1, by omega⟩
        have hkn : k < n := hlt
        obtain ⟨b, off, x, _, h1, c0, _, ex⟩ := ents_nth HX.out hw.out hkl
        subst h1
        obtain ⟨_, _, y, _, h2, c1, _, ey⟩ := ents_nth HX.out hw.out (show j < l.length by omega)
        cases h2
        have hx : l[k].1 = x := by rw [(List.getElem?_eq_some_iff.1 ex).2]
        have hy : (l[j]'(by omega)).1 = y := by rw [(List.getElem?_eq_some_iff.1 ey).2]
        have x01 := HS.out k hkl
        have y01 := HS.out j (by omega)
        rw [hx] at x01
        rw [hy] at y01
        obtain ⟨x0, x1⟩ := x01
        obtain ⟨y0, y1⟩ := y01
        have i0 : (0 : Int) ≤ (k : Int) := by omega
        have i1 : (k : Int) < (n : Int) := by omega
        have i2 : (1 : Int) ≤ (k : Int) := by omega
        have i3 : (k : Int) ≤ (n : Int) := by omega
        have i4 : (k - 1 : Int).toNat = j := by omega
        have i5 : IntKind.i64.wrap ((k : Int) - 1) = (k : Int) - 1 := IntWalk.i64_in _ (by omega)
        have i6 : IntKind.i64.wrap (x - y) = x - y := IntWalk.i64_in _ (by omega)
        have i7 : IntKind.i64.wrap ((k : Int) + 1) = ((k + 1 : Nat) : Int) := by rw [IntWalk.i64_in _ (by omega)]; rfl
        by_cases hd : x - y = 1
        · have t4 : (x - y != 1) = false := by simpa using hd
          have HC : Hid (Cnt m l (k + 1)) := Lib.hid (by
            refine hcn.out.more hj (by omega) hkm ?_
            subst hj
            rw [hx, hy]; exact hd)
          clear hd hx hy ex ey hkm hj hkl
          go_wp2
          go_quiet (fail)
          go_wp2
          go_roundw
          case rel => exact ⟨k + 1, by go_num, HC, Lib.hid (by first | exact Dsk.below_q hw.out _ | exact hw.out)⟩
          case measure => simp [numOf]; omega
        · have t4 : (x - y != 1) = true := by simpa using hd
          have HF : Hid (Fst m l k) := Lib.hid (by
            refine hcn.out.off hj (by omega) (.inr ?_)
            subst hj
            rw [hx, hy]; exact hd)
          clear hd hx hy ex ey hkm hj hkl
          go_wp2
          go_quiet (fail)
          go_wp2
          (try rw [Exit.noGoto_ret]); go_ret
          exact ⟨k, rfl, HF.out, by first | exact Dsk.below_q hw.out _ | exact hw.out⟩
    · have t1 : decide ((k : Int) < (n : Int)) = false := by simp; omega
      have t2 : decide (k < n) = false := by simp; omega
      have HF := Lib.hid (hcn.out.full (by have := HN.out; omega))
      go_wp2
      (try rw [Exit.noGoto_ret]); go_ret
      exact ⟨k, rfl, HF.out, hw.out⟩
/-- slices.Clone of exceptions: a row of the call's own. -/
theorem clone_any (u : List E) (n : Nat) (hn : n = u.length) (h1 : 1 ≤ n) (p : Option Addr) (c : Nat) (w : World) (h : REnts w p u) (h2 : n * 16 ≤ 140737488355328) :
    Calls Try.prog 15 #[.slice p n c] w fun e w' => ∃ v, e = .returned v ∧ w'.ownsRow w.heap.size 36 2 v n (ecells u) ∧ Below w.heap.size w w' := by
  have q22 : ∀ (w : World) (a : Option Addr) (n c n' c' : Nat), (binOp .eql 22 (.slice a n c) (.slice none n' c')).run Try.prog w = .ok (.bool a.isNone) w := fun w a n c n' c' => Lib.run_eql_slice_nil w _ _ a n c n' c' Try.underlying22
  have hu : u ≠ [] := by intro e; rw [e] at hn; simp at hn; omega
  obtain ⟨b, off, rfl, _, hc⟩ := ents_news h hu
  have A := Lib.hid hc
  have hl := ecells_length u
  rw [← hn] at hl
  obtain ⟨i0, hi, hz0, hz1, hz2⟩ := info_parts info_entry
  have HU := Lib.hid hu
  clear hc h hu
  go_enter Try.func15, Try.ntmps15
  go_wp2_with (at_builtin; refine wpList_append_own _ rfl _ _ 22 rfl w.heap.size 36 i0 _ 2 16 Try.underlying22 hi hz0 hz1 hz2 rfl (by decide) _ _ _ rfl (World.ownsRow_made w #[] 0 (Nat.le_refl _) (Nat.zero_le _) (by simp)) ⟨b, off, none⟩ n c (ecells u) rfl ?qc1 ?qc2 ?qc3 ?qc4 ?qc5 ?qc6 ?_)
  case qc1 => exact hl
  case qc2 =>
    intro j v hj
    have := A.out j v hj
    rw [Addr.add_lit]
    exact Lib.cell?_alloc_some _ this
  case qc3 => exact ecells_one u
  case qc4 => rw [Nat.zero_add]; unfold maxLen; omega
  case qc5 => rw [Nat.zero_add]; exact h2
  case qc6 => simp
  intro v' w1 hown hgrow hnil
  go_wp2_with fail
  go_ret
  refine ⟨v', rfl, by rw [hn]; exact hown, ?_⟩
  exact ((Below.refl _ w).alloc (Nat.le_refl _) _).grown hgrow (by simp) (by intro k hk; simp [Value.ownBlock] at hk; omega)
end Rn
end Go.Proofs.Ytaedgifboepgdaa
