/- Contract of the document's Right. -/
import Derived.Test.YtaedgifboepgdaaRunCode
namespace Go.Proofs.Ytaedgifboepgdaa
namespace Rn
open Go.RowKit Dsk Tb
set_option linter.unusedVariables false
set_option maxRecDepth 100000

theorem la_low {l : List E} {k : Nat} (h : ordB l k = true) : -1 ≤ la l k := by
  cases k with
  | zero => show (-1 : Int) ≤ -1; omega
  | succ j => have := ord_pos (ordB_iff.1 h) j (by omega); omega
theorem rright_any {m : Int} {l : List E} {n c : Nat} (hin : In m l n c) (a : Option Addr) (w : World) (hrow : REnts w a l) :
    Calls Try.prog 16 #[.int .i64 m, .slice a n c] w fun e w' => e = .returned (.bool (rightB m l)) ∧ Below w.heap.size w w' := by
  have HN := Lib.hid hin.len
  have HB := hin.bytes
  have HX := Lib.hid hrow
  have HR : Hid (∀ b, ordB l n = b → (decide (1 ≤ m) && b) = rightB m l) := by refine Lib.hid fun b e => ?_; unfold rightB; rw [← HN.out, e]
  clear hin hrow
  go_enter Try.func16, Try.ntmps16
  go_wp2
  go_loopw [5] (fun i wr => ∃ (k : Nat), k ≤ n ∧ i = .int .i64 k ∧ Hid (ordB l k = true) ∧ Hid (Below w.heap.size w wr)) (fun i _ => n - (numOf i).toNat)
  case atStart => exact ⟨0, Nat.zero_le _, rfl, Lib.hid rfl, Lib.hid (Below.refl _ _)⟩
  case round =>
    obtain ⟨k, hk, rfl, ho, hw⟩ := hrel
    by_cases hlt : k < n
    · have t1 : decide ((k : Int) < (n : Int)) = true := by simp; omega
      have t2 : decide (k < n) = true := by simp; omega
      have hkl : k < l.length := by have := HN.out; omega
      obtain ⟨b, off, x, _, h1, c0, _, ex⟩ := ents_nth HX.out hw.out hkl
      subst h1
      have HY : Hid (la l (k + 1) = x) := Lib.hid (by rw [la_succ hkl, (List.getElem?_eq_some_iff.1 ex).2])
      have hk0 : (0 : Int) ≤ (k : Int) := by omega
      have hk1 : (k : Int) < (n : Int) := by omega
      have hw1 : IntKind.i64.wrap ((k : Int) + 1) = ((k + 1 : Nat) : Int) := by rw [IntWalk.i64_in _ (by omega)]; rfl
      have hlow := la_low ho.out
      by_cases hx0 : x < 0
      · have t3 : decide (x < 0) = true := by simpa using hx0
        have HF : Hid (rightB m l = false) := Lib.hid (by rw [← HR.out false (ordB_not (k := k) (by omega) (by rw [HY.out]; omega)), Bool.and_false])
        clear hx0 hlow ex hkl
        go_wp2
        go_quiet (fail)
        go_wp2
        go_ret
        exact ⟨by rw [HF.out]; rfl, by first | exact Dsk.below_q hw.out _ | exact hw.out⟩
      · have t3 : decide (x < 0) = false := by simpa using hx0
        by_cases hkz : k = 0
        · have t4 : decide ((k : Int) > 0) = false := by simp; omega
          have t5 : decide (k > 0) = false := by simp; omega
          have HO : Hid (ordB l (k + 1) = true) := Lib.hid (by
            rw [ordB_succ, ho.out, HY.out]
            subst hkz
            show decide (-1 < x) = true
            simp; omega)
          clear hx0 hlow ex hkl hkz
          go_wp2
          go_quiet (fail)
          go_wp2
          go_roundw
          case rel => exact ⟨k + 1, by omega, by go_num, HO, Lib.hid (by first | exact Dsk.below_q hw.out _ | exact hw.out)⟩
          case measure => simp [numOf]; omega
        · have t4 : decide ((k : Int) > 0) = true := by simp; omega
          have t5 : decide (k > 0) = true := by simp; omega
          obtain ⟨j, hj⟩ : ∃ j, k = j + 1 := ⟨k - 1, by omega⟩
          obtain ⟨_, _, y, _, h2, c1, _, ey⟩ := ents_nth HX.out hw.out (show j < l.length by omega)
          cases h2
          have HZ : Hid (la l k = y) := Lib.hid (by rw [hj, la_succ (show j < l.length by omega), (List.getElem?_eq_some_iff.1 ey).2])
          have i2 : (1 : Int) ≤ (k : Int) := by omega
          have i3 : (k : Int) ≤ (n : Int) := by omega
          have i4 : (k - 1 : Int).toNat = j := by omega
          have i5 : IntKind.i64.wrap ((k : Int) - 1) = (k : Int) - 1 := IntWalk.i64_in _ (by omega)
          by_cases hyx : y ≥ x
          · have t6 : decide (y ≥ x) = true := by simpa using hyx
            have HF : Hid (rightB m l = false) := Lib.hid (by rw [← HR.out false (ordB_not (k := k) (by omega) (by rw [HY.out, HZ.out]; omega)), Bool.and_false])
            clear hx0 hlow ex ey hkl hj hyx
            go_wp2
            go_quiet (fail)
            go_wp2
            go_ret
            exact ⟨by rw [HF.out]; rfl, by first | exact Dsk.below_q hw.out _ | exact hw.out⟩
          · have t6 : decide (y ≥ x) = false := by simpa using hyx
            have HO : Hid (ordB l (k + 1) = true) := Lib.hid (by rw [ordB_succ, ho.out, HY.out, HZ.out]; simp; omega)
            clear hx0 hlow ex ey hkl hj hyx
            go_wp2
            go_quiet (fail)
            go_wp2
            go_roundw
            case rel => exact ⟨k + 1, by omega, by go_num, HO, Lib.hid (by first | exact Dsk.below_q hw.out _ | exact hw.out)⟩
            case measure => simp [numOf]; omega
    · obtain rfl : k = n := by omega
      have t1 : decide ((k : Int) < (k : Int)) = false := by simp
      have t2 : decide (k < k) = false := by simp
      have HF := Lib.hid (HR.out _ ho.out)
      go_wp2
      go_ret
      exact ⟨by rw [← HF.out]; simp, hw.out⟩
end Rn
end Go.Proofs.Ytaedgifboepgdaa
