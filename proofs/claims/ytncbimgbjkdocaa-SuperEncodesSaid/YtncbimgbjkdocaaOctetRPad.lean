/- Contracts of the document's Pad and Zero. -/
import Derived.Test.YtncbimgbjkdocaaOctetPad
import Derived.Test.YtncbimgbjkdocaaOctetZero
import Derived.Test.YtncbimgbjkdocaaOctetRPut
namespace Go.Proofs.Ytncbimgbjkdocaa
open Go.RowKit
set_option maxRecDepth 100000
set_option linter.unusedVariables false

theorem rpad_no (l : List UInt8) (z : Int) (w : World) (h : ¬ ((l.length : Int) ≤ z ∧ z ≤ 1048576)) :
    Calls Try.prog 43 #[.string (Om.B l), .int .i64 z] w fun e w' => e = .returned (.tuple #[.string (Om.B []), .int .i64 2]) ∧ w = w' := by
  have hs : ((Om.B l).size : Int) = (l.length : Int) := rfl
  by_cases h1 : z < ((Om.B l).size : Int)
  · have h1' : decide (z < ((Om.B l).size : Int)) = true := by simpa using h1
    clear h hs
    go_enter Try.func43, Try.ntmps43
    go_wp2
    go_ret2
    exact ⟨rfl, rfl⟩
  · have h1' : decide (z < ((Om.B l).size : Int)) = false := by simpa using h1
    have h2 : decide (1048576 < z) = true := by rw [hs] at h1; simp; omega
    clear h hs
    go_enter Try.func43, Try.ntmps43
    go_wp2
    go_ret2
    exact ⟨rfl, rfl⟩
theorem rpad_ok (l : List UInt8) (k : Nat) (w : World) (h : l.length ≤ k) (hk : k ≤ 1048576) :
    Calls Try.prog 43 #[.string (Om.B l), .int .i64 (k : Int)] w fun e w' => e = .returned (.tuple #[.string (Om.B (padTo l k)), .int .i64 0]) ∧ w = w' := by
  have h1 : decide (1048576 < (k : Int)) = false := by simp; omega
  have h2 : decide (k < (Om.B l).size) = false := by rw [Om.B_size]; simp; omega
  have h0 : padTo l l.length = l := by simp [padTo]
  have H0 := Lib.hid h0
  clear h0
  go_enter Try.func43, Try.ntmps43
  go_wp2
  go_loop [0] (fun s => ∃ j : Nat, l.length ≤ j ∧ j ≤ k ∧ s = .string (Om.B (padTo l j))) (fun s => match s with | .string b => k - b.size | _ => 0)
  case atStart => exact ⟨l.length, Nat.le_refl _, h, by rw [H0.out]⟩
  case round =>
    obtain ⟨j, hlj, hj, rfl⟩ := hrel
    have hsz : (Om.B (padTo l j)).size = j := by rw [Om.B_size, padTo_length l j hlj]
    by_cases hlt : j < k
    · have hcat : ¬ 9223372036854775807 < (Om.B (padTo l j)).size + (⟨#[0]⟩ : ByteArray).size := by rw [hsz]; have : (⟨#[0]⟩ : ByteArray).size = 1 := rfl; omega
      have hlt' : (Om.B (padTo l j)).size < k := by rw [hsz]; exact hlt
      have HSZ := Lib.hid hsz
      clear hsz
      go_wp2
      have hstep : Om.B (padTo l j) ++ (⟨#[0]⟩ : ByteArray) = Om.B (padTo l (j + 1)) := by
        rw [show (⟨#[0]⟩ : ByteArray) = Om.B [0] from rfl, Om.B_append]
        unfold padTo
        rw [show j + 1 - l.length = (j - l.length) + 1 from by omega, List.replicate_succ', List.append_assoc]
      refine ⟨⟨j + 1, by omega, by omega, by rw [hstep]⟩, ?_⟩
      show k - (Om.B (padTo l j) ++ (⟨#[0]⟩ : ByteArray)).size < k - (Om.B (padTo l j)).size
      rw [hstep, HSZ.out, Om.B_size, padTo_length l (j + 1) (by omega)]
      omega
    · obtain rfl : j = k := by omega
      have hlt' : ¬ (Om.B (padTo l j)).size < j := by rw [hsz]; exact hlt
      clear hsz
      go_wp2
      go_ret2
      exact ⟨rfl, rfl⟩
theorem rzero_any (l : List UInt8) (w : World) (hl : l.length ≤ 4611686018427387904) :
    Calls Try.prog 37 #[.string (Om.B l)] w fun e w' => e = .returned (.bool (allZero l)) ∧ w = w' := by
  have hs : (Om.B l).size ≤ 4611686018427387904 := hl
  go_enter Try.func37, Try.ntmps37
  go_wp2
  go_loop [3] (fun i => ∃ k : Nat, k ≤ (Om.B l).size ∧ i = .int .i64 k ∧ Hid (∀ j (hj : j < l.length), j < k → l[j] = 0)) (fun i => (Om.B l).size - (intOf i).toNat)
  case atStart => exact ⟨0, Nat.zero_le _, rfl, Lib.hid (fun j _ hj => absurd hj (by omega))⟩
  case round =>
    obtain ⟨k, hk, rfl, hall⟩ := hrel
    by_cases hlt : k < (Om.B l).size
    · by_cases hz : l[k]'hlt = 0
      · have h1 : ((((Om.B l)[k]).toNat : Int) != 0) = false := by
          rw [show (Om.B l)[k] = l[k]'hlt from rfl, hz]; rfl
        have HZ := Lib.hid hz
        clear hz
        go_wp2
        go_round
        case rel => exact ⟨k + 1, by omega, by go_num, Lib.hid (fun j hj hjk => by
          by_cases e : j = k
          · subst e; exact HZ.out
          · exact hall.out j hj (by omega))⟩
        case measure => simp [intOf]; omega
      · have h1 : ((((Om.B l)[k]).toNat : Int) != 0) = true := by
          rw [show (Om.B l)[k] = l[k]'hlt from rfl, bne_iff_ne]
          intro c
          apply hz
          apply UInt8.toNat_inj.1
          rw [show (0 : UInt8).toNat = 0 from rfl]
          omega
        have hno := allZero_not l k hlt hz
        have HN := Lib.hid hno
        clear hz hno
        go_wp2
        go_ret
        exact ⟨by rw [HN.out]; rfl, rfl⟩
    · have hyes := allZero_of l (fun j hj => hall.out j hj (Nat.lt_of_lt_of_le hj (Nat.not_lt.1 hlt)))
      have HY := Lib.hid hyes
      clear hyes hall
      obtain rfl : k = (Om.B l).size := by omega
      go_wp2
      go_ret
      exact ⟨by rw [HY.out]; rfl, rfl⟩
end Go.Proofs.Ytncbimgbjkdocaa
