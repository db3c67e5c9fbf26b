/- The contract of the document's Number. -/
import Derived.Test.YtheldnamllnkeaaDoorDmpNumR
import Derived.Test.YtheldnamllnkeaaDoorDmpRefF
import Derived.Test.YtheldnamllnkeaaDoorDmpWord
namespace Go.Proofs.YtheldnamllnkeaaDoor
namespace Pd
open Go.RowKit Dsk Go.Maps
set_option maxRecDepth 100000
set_option linter.unusedVariables false

/-- What it tells. -/
def RNumIs (l : List UInt8) (w : World) (e : Ending) (w' : World) : Prop := e = .returned (.tuple #[.int .i64 (((numR l).getD 0 : Nat) : Int), .bool (numR l).isSome]) ∧ w = w'
theorem RNumIs.no {l : List UInt8} {w : World} (h : numR l = none) : RNumIs l w (.returned (.tuple #[.int .i64 0, .bool false])) w := ⟨by rw [h]; rfl, rfl⟩
theorem RNumIs.yes {l : List UInt8} {n : Nat} {w : World} (h : numR l = some n) : RNumIs l w (.returned (.tuple #[.int .i64 (n : Int), .bool true])) w := ⟨by rw [h]; rfl, rfl⟩
set_option maxHeartbeats 2000000 in
theorem rnumber_any (l : List UInt8) (w : World) (hl : l.length ≤ 4294967295) : Calls Tryd.prog 42 #[.string (Om.B l), .int .i64 4294967295] w (RNumIs l w) := by
  by_cases h0 : l = []
  · subst h0
    have NO : Hid (numR [] = none) := Lib.hid rfl
    have q : ((Om.B []).toList == ([] : List UInt8)) = true := b_is rfl
    go_enter Tryd.func42, Tryd.ntmps42
    go_wp2
    go_ret2
    exact RNumIs.no NO.out
  · obtain ⟨m, hmm⟩ : ∃ m, m = l.length := ⟨_, rfl⟩
    have MM := Lib.hid hmm
    have q : ((Om.B l).toList == ([] : List UInt8)) = false := b_isnt h0
    have hm0 : 0 < m := by rw [hmm]; cases l with | nil => exact absurd rfl h0 | cons x y => simp
    have NE := Lib.hid h0
    obtain ⟨fs, hfs⟩ : ∃ fs, fs = Om.B l := ⟨_, rfl⟩
    have hsz : fs.size = m := by rw [hfs, Om.B_size, hmm]
    have FS := Lib.hid hfs
    have AT : Hid (∀ (j : Nat) (hj : j < fs.size) (c : UInt8), l[j]? = some c → fs[j] = c) := Lib.hid fun j hj c hc => by
      have e : ∀ (x : ByteArray) (hx : j < x.size) (hl : j < l.length), x = Om.B l → x[j] = l[j] := by rintro _ hx hl rfl; rfl
      rw [e fs hj (List.getElem?_eq_some_iff.1 hc).1 FS.out]
      exact (List.getElem?_eq_some_iff.1 hc).2
    rw [← hfs] at q ⊢
    rw [← hmm] at hl
    obtain ⟨c0, hc0⟩ : ∃ c, l[0]? = some c := ⟨l[0]'(by rw [← hmm]; exact hm0), List.getElem?_eq_getElem _⟩
    have hb0 : fs[0]'(by rw [hsz]; exact hm0) = c0 := AT.out 0 _ c0 hc0
    have HD : Hid (l.headD 0 = c0) := Lib.hid (by cases l with | nil => cases hc0 | cons x y => injection hc0)
    clear hfs hmm h0 hc0
    have LOOP : Hid (¬ (1 < m ∧ c0 = 48) → numR l = numD 0 l) := Lib.hid fun h => by unfold numR; rw [if_neg]; rintro (e | ⟨e1, e2⟩); exact NE.out e; exact h ⟨by rw [MM.out]; exact e1, by rw [← HD.out]; exact e2⟩
    have BAD : Hid ((1 < m ∧ c0 = 48) → numR l = none) := Lib.hid fun h => by unfold numR; rw [if_pos (.inr ⟨by rw [← MM.out]; exact h.1, by rw [HD.out]; exact h.2⟩)]
    have hcc : c0 ≠ 48 → ((c0.toNat : Int) == 48) = false := fun hc => by
      rw [beq_eq_false_iff_ne]
      intro e
      exact hc (UInt8.toNat_inj.1 (by show c0.toNat = 48; omega))
    by_cases hbad : 1 < m ∧ c0 = 48
    · have NO : Hid (numR l = none) := Lib.hid (BAD.out hbad)
      obtain ⟨h1, rfl⟩ := hbad
      have d1 : decide (1 < (m : Int)) = true := by simp; omega
      have d1' : (1 : Int) < (m : Int) := by omega
      clear hcc
      go_enter Tryd.func42, Tryd.ntmps42
      go_wp2
      go_ret2
      exact RNumIs.no NO.out
    · have EQ := Lib.hid (LOOP.out hbad)
      go_enter Tryd.func42, Tryd.ntmps42
      by_cases h1 : 1 < m
      all_goals
        first
          | (have d1 : decide (1 < (m : Int)) = true := by simp; omega
             have d1' : (1 : Int) < (m : Int) := by omega
             have e1 := hcc (fun e => hbad ⟨h1, e⟩))
          | (have d1 : decide (1 < (m : Int)) = false := by simp; omega
             have d1' : ¬ (1 : Int) < (m : Int) := by omega)
        clear hcc hbad
        go_wp2
        go_loopw [6, 7] (fun n i wr => ∃ acc j : Nat, n = .int .i64 (acc : Int) ∧ i = .int .i64 (j : Int) ∧ j ≤ m ∧ acc ≤ 4294967295 ∧ Hid (numD 0 l = numD acc (l.drop j)) ∧ wr = w) (fun _ i _ => m - (Lib.intOf i).toNat)
        case atStart => exact ⟨0, 0, rfl, rfl, Nat.zero_le _, Nat.zero_le _, Lib.hid rfl, rfl⟩
        case round =>
          obtain ⟨acc, j, rfl, rfl, hj, hacc, hnum, rfl⟩ := hrel
          by_cases hlt : j < m
          · have hjl : j < l.length := by rw [← MM.out]; exact hlt
            obtain ⟨c, hc⟩ : ∃ c, l[j]? = some c := ⟨l[j], List.getElem?_eq_getElem hjl⟩
            have hfj : j < fs.size := by rw [hsz]; exact hlt
            have hb : fs[j] = c := AT.out j hfj c hc
            have HDR := Lib.hid (drop_at l j c hc)
            have HJM := Lib.hid hlt
            have d2 : decide ((j : Int) < (m : Int)) = true := by simp; omega
            have d2' : decide (j < m) = true := by simp; omega
            have j0 : (0 : Int) ≤ (j : Int) := by omega
            have j1 : (j : Int) < (m : Int) := by omega
            have hw1 : IntKind.i64.wrap ((j : Int) + 1) = ((j + 1 : Nat) : Int) := by rw [IntWalk.i64_in _ (by omega)]; rfl
            clear hc hjl
            by_cases hlo : c.toNat < 48
            · have NO : Hid (numR l = none) := Lib.hid (by rw [EQ.out, hnum.out, HDR.out]; unfold numD; rw [if_neg (by omega)])
              have d3 : decide ((c.toNat : Int) < 48) = true := by simp; omega
              go_wp2
              go_ret2
              exact RNumIs.no NO.out
            · by_cases hhi : 57 < c.toNat
              · have NO : Hid (numR l = none) := Lib.hid (by rw [EQ.out, hnum.out, HDR.out]; unfold numD; rw [if_neg (by omega)])
                have d3 : decide ((c.toNat : Int) < 48) = false := by simp; omega
                have d4 : decide (57 < (c.toNat : Int)) = true := by simp; omega
                go_wp2
                go_ret2
                exact RNumIs.no NO.out
              · have d3 : decide ((c.toNat : Int) < 48) = false := by simp; omega
                have d4 : decide (57 < (c.toNat : Int)) = false := by simp; omega
                have STEP : Hid (numD acc (l.drop j) = if 4294967295 < 10 * acc + (c.toNat - 48) then none else numD (10 * acc + (c.toNat - 48)) (l.drop (j + 1))) := Lib.hid (by rw [HDR.out]; show (if _ then _ else _) = _; rw [if_pos (by omega)])
                by_cases hov : 4294967295 < 10 * acc + (c.toNat - 48)
                · have NO : Hid (numR l = none) := Lib.hid (by rw [EQ.out, hnum.out, STEP.out, if_pos hov])
                  have d5 : decide (4294967295 < 10 * (acc : Int) + ((c.toNat : Int) - 48)) = true := by simp; omega
                  go_wp2
                  go_ret2
                  exact RNumIs.no NO.out
                · have NX : Hid (numD 0 l = numD (10 * acc + (c.toNat - 48)) (l.drop (j + 1))) := Lib.hid (by rw [hnum.out, STEP.out, if_neg hov])
                  have d5 : decide (4294967295 < 10 * (acc : Int) + ((c.toNat : Int) - 48)) = false := by simp; omega
                  go_wp2
                  go_roundw
                  case rel => exact ⟨10 * acc + (c.toNat - 48), j + 1, by first | go_num | (congr 1; omega), by go_num, by have := HJM.out; omega, by omega, NX, trivial⟩
                  case measure => have := HJM.out; simp [Lib.intOf]; omega
          · obtain rfl : j = m := by omega
            have d2 : decide ((j : Int) < (j : Int)) = false := by simp
            have d2' : decide (j < j) = false := by simp
            have YES : Hid (numR l = some acc) := Lib.hid (by rw [EQ.out, hnum.out, MM.out, List.drop_length]; rfl)
            go_wp2
            go_ret2
            exact RNumIs.yes YES.out
end Pd
end Go.Proofs.YtheldnamllnkeaaDoor
