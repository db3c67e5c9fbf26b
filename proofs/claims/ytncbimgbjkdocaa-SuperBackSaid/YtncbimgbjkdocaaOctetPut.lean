/- Contracts of octet's sizes and of Put. -/
import Derived.Test.YtncbimgbjkdocaaOctetMem
import Derived.LoopTactic
import Derived.ProofKit
import Derived.WalkLawsBesides
namespace Go.Proofs.Ytncbimgbjkdocaa
open Go.RowKit
set_option linter.unusedVariables false

theorem isSize_yes (z : Int) (w : World) (h : 0 ≤ z) (h8 : z ≤ 8) : Calls Try.prog 38 #[.int .i64 z] w fun e w' => e = .returned (.bool true) ∧ w = w' := by
  go_enter Try.func38, Try.ntmps38
  go_wp2
  go_ret
  exact ⟨rfl, rfl⟩
theorem isSize_no (z : Int) (w : World) (h : ¬ (0 ≤ z ∧ z ≤ 8)) : Calls Try.prog 38 #[.int .i64 z] w fun e w' => e = .returned (.bool false) ∧ w = w' := by
  by_cases h0 : 0 ≤ z
  · have h8 : ¬ z ≤ 8 := fun h8 => h ⟨h0, h8⟩
    clear h
    go_enter Try.func38, Try.ntmps38
    go_wp2
    go_ret
    exact ⟨rfl, rfl⟩
  · clear h
    go_enter Try.func38, Try.ntmps38
    go_wp2
    go_ret
    exact ⟨rfl, rfl⟩

theorem put_arg (n z : Int) (w : World) (h : ¬ (0 ≤ z ∧ z ≤ 8)) : Calls Try.prog 23 #[.int .u64 n, .int .i64 z] w fun e w' => e = .returned (.tuple #[.string (Om.B []), .int .i64 1]) ∧ w = w' := by
  go_enter Try.func23, Try.ntmps23
  go_wp2_with fail
  refine (isSize_no z _ h).mono ?_
  rintro e w' ⟨rfl, rfl⟩
  go_wp2
  go_ret2
  exact ⟨rfl, rfl⟩
theorem put_big (n k : Nat) (w : World) (h : k ≤ 8) (hf : ¬ n < 256 ^ k) : Calls Try.prog 23 #[.int .u64 (n : Int), .int .i64 (k : Int)] w fun e w' => e = .returned (.tuple #[.string (Om.B []), .int .i64 2]) ∧ w = w' := by
  have h1 := Om.sh_int n k
  have h2 : ((Om.sh n k : Int) != 0) = true := by have := Om.sh_pos n k hf; rw [bne_iff_ne]; omega
  clear hf
  go_enter Try.func23, Try.ntmps23
  go_wp2_with fail
  refine (isSize_yes _ _ (by omega) (by omega)).mono ?_
  rintro e w' ⟨rfl, rfl⟩
  go_wp2
  go_ret2
  exact ⟨rfl, rfl⟩

/-- What a row of bytes holds behind k rounds. -/
def bts (n z k : Nat) : List Value := Lib.byteCells (Om.low n k) ++ List.replicate (z - k) (.int .u8 0)
theorem bts_length (n z k : Nat) (h : k ≤ z) : (bts n z k).length = z := by
  simp [bts, Lib.byteCells_length, Om.low_length]; omega
theorem bts_at (n z k : Nat) (h : k < z) : (bts n z k)[k]? = some (.int .u8 0) := by
  unfold bts
  rw [List.getElem?_append_right (by rw [Lib.byteCells_length, Om.low_length]; exact Nat.le_refl _), Lib.byteCells_length, Om.low_length, List.getElem?_replicate, if_pos (by omega)]
theorem bts_succ (n z k : Nat) (h : k < z) : (bts n z k).set k (.int .u8 ((UInt8.ofNat (Om.sh n k)).toNat : Int)) = bts n z (k + 1) := by
  unfold bts
  obtain ⟨m, hm⟩ : ∃ m, z - k = m + 1 := ⟨z - k - 1, by omega⟩
  have hm' : z - (k + 1) = m := by omega
  rw [hm, hm', List.set_append_right _ _ (by rw [Lib.byteCells_length, Om.low_length]; exact Nat.le_refl _), Lib.byteCells_length, Om.low_length, Om.low_succ, Lib.byteCells_append, Nat.sub_self, List.replicate_succ]
  simp [Lib.byteCells, Om.sh]

set_option maxHeartbeats 400000 in
theorem put_ok (n k : Nat) (w : World) (h : k ≤ 8) (hf : n < 256 ^ k) : Calls Try.prog 23 #[.int .u64 (n : Int), .int .i64 (k : Int)] w fun e w' => e = .returned (.tuple #[.string (Om.B (Om.low n k)), .int .i64 0]) ∧ Below w.heap.size w w' := by
  obtain ⟨i0, hi, hz0, hz1, hz2⟩ := info_parts info_u8
  have h1 := Om.sh_int n k
  have h2 : ((Om.sh n k : Int) != 0) = false := by rw [Om.sh_zero n k hf]; rfl
  clear hf
  go_enter Try.func23, Try.ntmps23
  go_wp2_with fail
  refine (isSize_yes _ _ (by omega) (by omega)).mono ?_
  rintro e w' ⟨rfl, rfl⟩
  go_wp2_with (refine wpList_make_full _ rfl _ _ 33 rfl w.heap.size 5 i0 (.int .u8 0) 1 Try.underlying33 hi hz0 hz1 .i64 .i64 _ _ k rfl rfl rfl rfl ?c1 ?c2 ?c3 ?_)
  case c1 => rw [hz2]; omega
  case c2 => unfold maxLen; omega
  case c3 => exact Nat.le_refl _
  intro w1 hown hgrow
  have hown0 : w1.ownsRow w.heap.size 5 1 (.slice (some ⟨w.heap.size, 0, none⟩) k k) k (bts n k 0) := by
    rw [toList_madeCells_one] at hown
    have e : bts n k 0 = List.replicate k (.int .u8 0) := by simp [bts, Om.low, Lib.byteCells]
    rw [e]
    exact hown
  have hbel0 : Below w.heap.size w w1 := (Below.refl _ _).grown hgrow (Nat.le_refl _) (fun j hj => by cases hj)
  clear hown hgrow h1 h2
  go_wp2
  go_loopw [20] (fun i wr => ∃ j : Nat, j ≤ k ∧ i = .int .i64 j ∧ wr.ownsRow w.heap.size 5 1 (.slice (some ⟨w.heap.size, 0, none⟩) k k) k (bts n k j) ∧ Below w.heap.size w wr) (fun i _ => k - (intOf i).toNat)
  case atStart => exact ⟨0, Nat.zero_le _, rfl, hown0, hbel0⟩
  case round =>
    obtain ⟨j, hj, rfl, hown, hbel⟩ := hrel
    clear hown0 hbel0
    by_cases hlt : j < k
    · have h1 := Om.sh_int n j
      have hcell : wr.cell? ⟨w.heap.size, j, none⟩ = some (.int .u8 0) := by rw [hown.cellAt j (by omega), bts_at n k j hlt]
      have hfz := hown.frozenAt j
      have hst := hown.stored j (.int .u8 ((UInt8.ofNat (Om.sh n j)).toNat : Int))
      rw [bts_succ n k j hlt] at hst
      have HS := Lib.hid hst
      clear hst hown
      go_wp2
      go_roundw
      case rel =>
        refine ⟨j + 1, by omega, by go_num, ?_, ?_⟩
        · exact HS.out.1
        · exact hbel.setCell (p := ⟨w.heap.size, j, none⟩) (Nat.le_refl _) _
      case measure => simp [intOf]; omega
    · obtain rfl : j = k := by omega
      have hcv : (convert 33 9 (.slice (some ⟨w.heap.size, 0, none⟩) j j)).run Try.prog wr = .ok (.string (Om.B (Om.low n j))) wr := by
        have h := run_convert_bytes_back (P := Try.prog) wr 33 9 5 ⟨w.heap.size, 0, none⟩ j (Om.low n j) Try.underlying33 Try.underlying5 Try.underlying9 (fun i hi => by
          rw [Om.low_length] at hi
          rw [show (⟨w.heap.size, 0, none⟩ : Addr).add i = ⟨w.heap.size, i, none⟩ from by unfold Addr.add; split <;> simp_all, hown.cellAt i (by omega)]
          simp [bts, Lib.byteCells, Om.low_length, hi])
        rw [Om.low_length] at h
        exact h
      clear hown hlt
      go_wp2
      go_ret2
      exact ⟨rfl, hbel⟩

theorem str_one (W : World) (x : Nat) : (convert 33 9 (.slice (some ⟨W.heap.size, 0, none⟩) 1 1)).run Try.prog (W.alloc (.cells #[.int .u8 ((x : Int) % 256)] 5)) = .ok (.string (Om.B [UInt8.ofNat x])) (W.alloc (.cells #[.int .u8 ((x : Int) % 256)] 5)) := by
  have e : (x : Int) % 256 = ((UInt8.ofNat x).toNat : Int) := by rw [UInt8.toNat_ofNat']; omega
  rw [e]
  have h := run_convert_bytes_back (P := Try.prog) (W.alloc (.cells #[.int .u8 ((UInt8.ofNat x).toNat : Int)] 5)) 33 9 5 ⟨W.heap.size, 0, none⟩ 1 [UInt8.ofNat x] Try.underlying33 Try.underlying5 Try.underlying9 (fun i hi => by
    have : i = 0 := by simpa using hi
    subst this
    simp [Addr.add])
  exact h
theorem sh_next (n j : Nat) : Om.sh n j / 256 = Om.sh n (j + 1) := by
  unfold Om.sh; rw [Nat.div_div_eq_div_mul, Nat.pow_succ]
theorem no_over (a b : List UInt8) (h : a.length + b.length < 4611686018427387904) : ¬ 9223372036854775807 < (Om.B a).size + (Om.B b).size := by
  rw [Om.B_size, Om.B_size]; omega
def putS (n k : Nat) : List UInt8 := if n < 256 ^ k then Om.low n k else []
def putE (n k : Nat) : Int := if n < 256 ^ k then 0 else 2
end Go.Proofs.Ytncbimgbjkdocaa
