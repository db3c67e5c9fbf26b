/- Contracts of octet's Pad and Zero, the program's and the document's. -/
import Derived.Test.YtdkfhgcihkjkgaaOctetPut
import Derived.Test.YtdkfhgcihkjkgaaRepeat
import Derived.Outline
namespace Go.Proofs.Ytdkfhgcihkjkgaa
open Go.RowKit
set_option linter.unusedVariables false

/-- Bytes, and bytes 0 behind them, so many in all. -/
def padTo (l : List UInt8) (k : Nat) : List UInt8 := l ++ List.replicate (k - l.length) 0
theorem padTo_length (l : List UInt8) (k : Nat) (h : l.length ≤ k) : (padTo l k).length = k := by simp [padTo]; omega

theorem pad_no (l : List UInt8) (z : Int) (w : World) (h : ¬ ((l.length : Int) ≤ z ∧ z ≤ 1048576)) :
    Calls Try.prog 15 #[.string (Om.B l), .int .i64 z] w fun e w' => e = .returned (.tuple #[.string (Om.B []), .int .i64 2]) ∧ w = w' := by
  have hs : ((Om.B l).size : Int) = (l.length : Int) := rfl
  by_cases h1 : 1048576 < z
  · have h1' : decide (1048576 < z) = true := by simpa using h1
    clear h hs
    go_enter Try.func15, Try.ntmps15
    go_wp2
    go_ret2
    exact ⟨rfl, rfl⟩
  · have h1' : decide (1048576 < z) = false := by simpa using h1
    have h2 : decide (z < ((Om.B l).size : Int)) = true := by rw [hs]; simp; omega
    clear h hs
    go_enter Try.func15, Try.ntmps15
    go_wp2
    go_ret2
    exact ⟨rfl, rfl⟩
theorem pad_ok (l : List UInt8) (k : Nat) (w : World) (h : l.length ≤ k) (hk : k ≤ 1048576) :
    Calls Try.prog 15 #[.string (Om.B l), .int .i64 (k : Int)] w fun e w' => e = .returned (.tuple #[.string (Om.B (padTo l k)), .int .i64 0]) ∧ Below w.heap.size w w' := by
  have h1 : decide (1048576 < (k : Int)) = false := by simp; omega
  have h2 : decide (k < (Om.B l).size) = false := by rw [Om.B_size]; simp; omega
  have h3 : (Om.B l).size ≤ k := by rw [Om.B_size]; exact h
  have hcat := no_over l (List.replicate (k - l.length) 0) (by simp; omega)
  have hs : (Om.B l).size = l.length := rfl
  have HS := Lib.hid hs
  clear h hs
  go_enter Try.func15, Try.ntmps15
  go_wp2_with fail
  rw [show ((k : Int) - ((Om.B l).size : Int)) = ((k - l.length : Nat) : Int) from by have := HS.out; omega]
  refine (repeat_any (k - l.length) _ (by omega)).mono ?_
  rintro e w' ⟨rfl, hb⟩
  have HB := Lib.hid hb
  clear hb
  go_wp2
  go_ret2
  exact ⟨by unfold padTo; rw [← Om.B_append]; rfl, HB.out⟩

theorem rpad_no (l : List UInt8) (z : Int) (w : World) (h : ¬ ((l.length : Int) ≤ z ∧ z ≤ 1048576)) :
    Calls Try.prog 16 #[.string (Om.B l), .int .i64 z] w fun e w' => e = .returned (.tuple #[.string (Om.B []), .int .i64 2]) ∧ w = w' := by
  have hs : ((Om.B l).size : Int) = (l.length : Int) := rfl
  by_cases h1 : z < ((Om.B l).size : Int)
  · have h1' : decide (z < ((Om.B l).size : Int)) = true := by simpa using h1
    clear h hs
    go_enter Try.func16, Try.ntmps16
    go_wp2
    go_ret2
    exact ⟨rfl, rfl⟩
  · have h1' : decide (z < ((Om.B l).size : Int)) = false := by simpa using h1
    have h2 : decide (1048576 < z) = true := by rw [hs] at h1; simp; omega
    clear h hs
    go_enter Try.func16, Try.ntmps16
    go_wp2
    go_ret2
    exact ⟨rfl, rfl⟩
theorem rpad_ok (l : List UInt8) (k : Nat) (w : World) (h : l.length ≤ k) (hk : k ≤ 1048576) :
    Calls Try.prog 16 #[.string (Om.B l), .int .i64 (k : Int)] w fun e w' => e = .returned (.tuple #[.string (Om.B (padTo l k)), .int .i64 0]) ∧ w = w' := by
  have h1 : decide (1048576 < (k : Int)) = false := by simp; omega
  have h2 : decide (k < (Om.B l).size) = false := by rw [Om.B_size]; simp; omega
  have h0 : padTo l l.length = l := by simp [padTo]
  have H0 := Lib.hid h0
  clear h0
  go_enter Try.func16, Try.ntmps16
  go_wp2
  go_loop [0] (fun s => ∃ j : Nat, l.length ≤ j ∧ j ≤ k ∧ s = .string (Om.B (padTo l j))) (fun s => match s with | .string b => k - b.size | _ => 0)
  case atStart => exact ⟨l.length, Nat.le_refl _, h, by rw [H0.out]⟩
  case round =>
    obtain ⟨j, hlj, hj, rfl⟩ := hrel
    have hsz : (Om.B (padTo l j)).size = j := by rw [Om.B_size, padTo_length l j hlj]
    by_cases hlt : j < k
    · have hcat : ¬ 9223372036854775807 < (Om.B (padTo l j)).size + (⟨#[0]⟩ : ByteArray).size := by rw [hsz]; have : (⟨#[0]⟩ : ByteArray).size = 1 := rfl; omega
      have hlt' : (Om.B (padTo l j)).size < k := by rw [hsz]; exact hlt
      have HSZ := Lib.hid hsz
      clear hsz
      go_wp2
      have hstep : Om.B (padTo l j) ++ (⟨#[0]⟩ : ByteArray) = Om.B (padTo l (j + 1)) := by
        rw [show (⟨#[0]⟩ : ByteArray) = Om.B [0] from rfl, Om.B_append]
        unfold padTo
        rw [show j + 1 - l.length = (j - l.length) + 1 from by omega, List.replicate_succ', List.append_assoc]
      refine ⟨⟨j + 1, by omega, by omega, by rw [hstep]⟩, ?_⟩
      show k - (Om.B (padTo l j) ++ (⟨#[0]⟩ : ByteArray)).size < k - (Om.B (padTo l j)).size
      rw [hstep, HSZ.out, Om.B_size, padTo_length l (j + 1) (by omega)]
      omega
    · obtain rfl : j = k := by omega
      have hlt' : ¬ (Om.B (padTo l j)).size < j := by rw [hsz]; exact hlt
      clear hsz
      go_wp2
      go_ret2
      exact ⟨rfl, rfl⟩

def allZero (l : List UInt8) : Bool := l.all (· == 0)
theorem allZero_not (l : List UInt8) (j : Nat) (hj : j < l.length) (h : l[j] ≠ 0) : allZero l = false := by
  cases hc : allZero l
  · rfl
  · exact absurd (by simpa using List.all_eq_true.1 hc _ (List.getElem_mem hj)) h
theorem allZero_of (l : List UInt8) (h : ∀ j (hj : j < l.length), l[j] = 0) : allZero l = true := by
  unfold allZero
  rw [List.all_eq_true]
  intro x hx
  obtain ⟨j, hj, rfl⟩ := List.mem_iff_getElem.1 hx
  simpa using h j hj

theorem zero_any (l : List UInt8) (w : World) (hl : l.length ≤ 4611686018427387904) :
    Calls Try.prog 17 #[.string (Om.B l)] w fun e w' => e = .returned (.bool (allZero l)) ∧ w = w' := by
  have hs : (Om.B l).size ≤ 4611686018427387904 := hl
  go_enter Try.func17, Try.ntmps17
  go_wp2
  go_loop [6] (fun i => ∃ k : Nat, k ≤ (Om.B l).size ∧ i = .int .i64 k ∧ Hid (∀ j (hj : j < l.length), j < k → l[j] = 0)) (fun i => (Om.B l).size - (intOf i).toNat)
  case atStart => exact ⟨0, Nat.zero_le _, rfl, Lib.hid (fun j _ hj => absurd hj (by omega))⟩
  case round =>
    obtain ⟨k, hk, rfl, hall⟩ := hrel
    by_cases hlt : k < (Om.B l).size
    · by_cases hz : l[k]'hlt = 0
      · have h1 : ((((Om.B l)[k]).toNat : Int) != 0) = false := by
          rw [show (Om.B l)[k] = l[k]'hlt from rfl, hz]; rfl
        have HZ := Lib.hid hz
        clear hz
        go_wp2
        go_round
        case rel => exact ⟨k + 1, by omega, by go_num, Lib.hid (fun j hj hjk => by
          by_cases e : j = k
          · subst e; exact HZ.out
          · exact hall.out j hj (by omega))⟩
        case measure => simp [intOf]; omega
      · have h1 : ((((Om.B l)[k]).toNat : Int) != 0) = true := by
          rw [show (Om.B l)[k] = l[k]'hlt from rfl, bne_iff_ne]
          intro c
          apply hz
          apply UInt8.toNat_inj.1
          rw [show (0 : UInt8).toNat = 0 from rfl]
          omega
        have hno := allZero_not l k hlt hz
        have HN := Lib.hid hno
        clear hz hno
        go_wp2
        go_ret
        exact ⟨by rw [HN.out]; rfl, rfl⟩
    · have hyes := allZero_of l (fun j hj => hall.out j hj (Nat.lt_of_lt_of_le hj (Nat.not_lt.1 hlt)))
      have HY := Lib.hid hyes
      clear hyes hall
      obtain rfl : k = (Om.B l).size := by omega
      go_wp2
      go_ret
      exact ⟨by rw [HY.out]; rfl, rfl⟩
theorem rzero_any (l : List UInt8) (w : World) (hl : l.length ≤ 4611686018427387904) :
    Calls Try.prog 18 #[.string (Om.B l)] w fun e w' => e = .returned (.bool (allZero l)) ∧ w = w' := by
  have hs : (Om.B l).size ≤ 4611686018427387904 := hl
  go_enter Try.func18, Try.ntmps18
  go_wp2
  go_loop [3] (fun i => ∃ k : Nat, k ≤ (Om.B l).size ∧ i = .int .i64 k ∧ Hid (∀ j (hj : j < l.length), j < k → l[j] = 0)) (fun i => (Om.B l).size - (intOf i).toNat)
  case atStart => exact ⟨0, Nat.zero_le _, rfl, Lib.hid (fun j _ hj => absurd hj (by omega))⟩
  case round =>
    obtain ⟨k, hk, rfl, hall⟩ := hrel
    by_cases hlt : k < (Om.B l).size
    · by_cases hz : l[k]'hlt = 0
      · have h1 : ((((Om.B l)[k]).toNat : Int) != 0) = false := by
          rw [show (Om.B l)[k] = l[k]'hlt from rfl, hz]; rfl
        have HZ := Lib.hid hz
        clear hz
        go_wp2
        go_round
        case rel => exact ⟨k + 1, by omega, by go_num, Lib.hid (fun j hj hjk => by
          by_cases e : j = k
          · subst e; exact HZ.out
          · exact hall.out j hj (by omega))⟩
        case measure => simp [intOf]; omega
      · have h1 : ((((Om.B l)[k]).toNat : Int) != 0) = true := by
          rw [show (Om.B l)[k] = l[k]'hlt from rfl, bne_iff_ne]
          intro c
          apply hz
          apply UInt8.toNat_inj.1
          rw [show (0 : UInt8).toNat = 0 from rfl]
          omega
        have hno := allZero_not l k hlt hz
        have HN := Lib.hid hno
        clear hz hno
        go_wp2
        go_ret
        exact ⟨by rw [HN.out]; rfl, rfl⟩
    · have hyes := allZero_of l (fun j hj => hall.out j hj (Nat.lt_of_lt_of_le hj (Nat.not_lt.1 hlt)))
      have HY := Lib.hid hyes
      clear hyes hall
      obtain rfl : k = (Om.B l).size := by omega
      go_wp2
      go_ret
      exact ⟨by rw [HY.out]; rfl, rfl⟩
end Go.Proofs.Ytdkfhgcihkjkgaa
