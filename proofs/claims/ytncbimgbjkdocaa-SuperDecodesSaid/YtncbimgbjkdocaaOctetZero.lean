/- The contract of octet's Zero. -/
import Derived.Test.YtncbimgbjkdocaaOctetPut
import Derived.Outline
namespace Go.Proofs.Ytncbimgbjkdocaa
open Go.RowKit
set_option linter.unusedVariables false

def allZero (l : List UInt8) : Bool := l.all (· == 0)
theorem allZero_not (l : List UInt8) (j : Nat) (hj : j < l.length) (h : l[j] ≠ 0) : allZero l = false := by
  cases hc : allZero l
  · rfl
  · exact absurd (by simpa using List.all_eq_true.1 hc _ (List.getElem_mem hj)) h
theorem allZero_of (l : List UInt8) (h : ∀ j (hj : j < l.length), l[j] = 0) : allZero l = true := by
  unfold allZero
  rw [List.all_eq_true]
  intro x hx
  obtain ⟨j, hj, rfl⟩ := List.mem_iff_getElem.1 hx
  simpa using h j hj

theorem zero_any (l : List UInt8) (w : World) (hl : l.length ≤ 4611686018427387904) :
    Calls Try.prog 34 #[.string (Om.B l)] w fun e w' => e = .returned (.bool (allZero l)) ∧ w = w' := by
  have hs : (Om.B l).size ≤ 4611686018427387904 := hl
  go_enter Try.func34, Try.ntmps34
  go_wp2
  go_loop [6] (fun i => ∃ k : Nat, k ≤ (Om.B l).size ∧ i = .int .i64 k ∧ Hid (∀ j (hj : j < l.length), j < k → l[j] = 0)) (fun i => (Om.B l).size - (intOf i).toNat)
  case atStart => exact ⟨0, Nat.zero_le _, rfl, Lib.hid (fun j _ hj => absurd hj (by omega))⟩
  case round =>
    obtain ⟨k, hk, rfl, hall⟩ := hrel
    by_cases hlt : k < (Om.B l).size
    · by_cases hz : l[k]'hlt = 0
      · have h1 : ((((Om.B l)[k]).toNat : Int) != 0) = false := by
          rw [show (Om.B l)[k] = l[k]'hlt from rfl, hz]; rfl
        have HZ := Lib.hid hz
        clear hz
        go_wp2
        go_round
        case rel => exact ⟨k + 1, by omega, by go_num, Lib.hid (fun j hj hjk => by
          by_cases e : j = k
          · subst e; exact HZ.out
          · exact hall.out j hj (by omega))⟩
        case measure => simp [intOf]; omega
      · have h1 : ((((Om.B l)[k]).toNat : Int) != 0) = true := by
          rw [show (Om.B l)[k] = l[k]'hlt from rfl, bne_iff_ne]
          intro c
          apply hz
          apply UInt8.toNat_inj.1
          rw [show (0 : UInt8).toNat = 0 from rfl]
          omega
        have hno := allZero_not l k hlt hz
        have HN := Lib.hid hno
        clear hz hno
        go_wp2
        go_ret
        exact ⟨by rw [HN.out]; rfl, rfl⟩
    · have hyes := allZero_of l (fun j hj => hall.out j hj (Nat.lt_of_lt_of_le hj (Nat.not_lt.1 hlt)))
      have HY := Lib.hid hyes
      clear hyes hall
      obtain rfl : k = (Om.B l).size := by omega
      go_wp2
      go_ret
      exact ⟨by rw [HY.out]; rfl, rfl⟩
end Go.Proofs.Ytncbimgbjkdocaa
