/- Contracts of octet's first, read and Get. -/
import Derived.Test.YtncbimgbjkdocaaOctetJoin
import Derived.Deep.QuietTactic
import Derived.BigQuiet
import Derived.Outline
import Derived.IntWalk
import Derived.Laws.BitsAllLaws
import Derived.WalkSpells
namespace Go.Proofs.Ytncbimgbjkdocaa
open Go.RowKit
set_option linter.unusedVariables false

theorem first_cut (l : List UInt8) (d : Nat) (w : World) (h : l.length < d) (hd : d ≤ 8) :
    Calls Try.prog 58 #[.string (Om.B l), .int .i64 (d : Int)] w fun e w' => e = .panicked [{ v := .iface 77 (.agg #[]), recovered := false }] ∧ w = w' := by
  have hs : (Om.B l).size < d := by rw [Om.B_size]; exact h
  go_enter Try.func58, Try.ntmps58
  go_wp2
  exact ⟨rfl, rfl, rfl⟩

theorem or_step (a b j : Nat) (ha : a < 256 ^ j) (hb : b < 256) (hj : j ≤ 7) : bits .or .u64 (a : Int) (IntKind.u64.wrap (IntKind.u64.wrap (b : Int) * 2 ^ (8 * j))) = ((a + 256 ^ j * b : Nat) : Int) := by
  have e1 : (256 : Nat) ^ j = 2 ^ (8 * j) := by rw [Nat.pow_mul]
  have h7 : 256 ^ j ≤ 256 ^ 7 := Nat.pow_le_pow_right (by omega) hj
  have hle : 256 ^ j * b ≤ 256 ^ 7 * 255 := Nat.mul_le_mul h7 (by omega)
  have w1 : IntKind.u64.wrap (b : Int) = (b : Int) := IntWalk.u64_in _ (by omega)
  have e2 : (b : Int) * 2 ^ (8 * j) = ((256 ^ j * b : Nat) : Int) := by
    rw [e1, Int.natCast_mul, Int.natCast_pow, Int.mul_comm]; rfl
  have w2 : IntKind.u64.wrap ((256 ^ j * b : Nat) : Int) = ((256 ^ j * b : Nat) : Int) := IntWalk.u64_in _ (by omega)
  rw [w1, e2, w2, u64_or_nat _ _ (by omega) (by omega)]
  congr 1
  have h := Nat.shiftLeft_add_eq_or_of_lt (a := b) (b := a) (i := 8 * j) (by rw [← e1]; exact ha)
  rw [Nat.shiftLeft_eq, ← e1] at h
  rw [Nat.or_comm, Nat.mul_comm, ← h]
  omega
theorem B_at (l : List UInt8) (j : Nat) (h : j < (Om.B l).size) : (Om.B l)[j] = l[j]'h := rfl
theorem first_any (l : List UInt8) (d : Nat) (w : World) (h : d ≤ l.length) (hd : d ≤ 8) :
    Calls Try.prog 58 #[.string (Om.B l), .int .i64 (d : Int)] w fun e w' => e = .returned (.tuple #[.int .u64 (Om.num (l.take d) : Int), .string (Om.B (l.drop d))]) ∧ ∃ m, w' = w.drewN m := by
  have hs : ¬ (Om.B l).size < d := by rw [Om.B_size]; omega
  go_enter Try.func58, Try.ntmps58
  go_wp2
  go_loop [4, 14] (fun n i => ∃ j : Nat, j ≤ d ∧ i = .int .i64 j ∧ n = .int .u64 (Om.num (l.take j) : Int)) (fun _ i => d - (intOf i).toNat)
  case atStart => exact ⟨0, Nat.zero_le _, rfl, rfl⟩
  case round =>
    obtain ⟨j, hj, rfl, rfl⟩ := hrel
    by_cases hlt : j < d
    · have hls : j < (Om.B l).size := by rw [Om.B_size]; omega
      have hnum : Om.num (l.take (j + 1)) = Om.num (l.take j) + 256 ^ j * ((Om.B l)[j]).toNat := by
        rw [List.take_succ_eq_append_getElem (by omega), Om.num_snoc, List.length_take, Nat.min_eq_left (by omega), B_at]; rfl
      have hor := or_step (Om.num (l.take j)) ((Om.B l)[j]).toNat j (by
        have := Om.num_lt (l.take j)
        rw [List.length_take, Nat.min_eq_left (by omega)] at this
        exact this) (UInt8.toNat_lt _) (by omega)
      rw [← hnum] at hor
      have HOR := Lib.hid hor
      clear hor hnum
      go_wp2
      go_round
      case rel => exact ⟨j + 1, by omega, by go_num, by rw [HOR.out]⟩
      case measure => simp [intOf]; omega
    · obtain rfl : j = d := by omega
      go_wp2
      go_quiet (fail)
      go_wp2
      go_ret2
      exact ⟨by rw [← Om.L_B l, ← Om.extract_end, Om.L_B]; rfl, _, rfl⟩

/-- The numbers' cells behind k rounds. -/
def nums (l : List UInt8) (zs : List Int) (n k : Nat) : List Value := (List.range k).map (fun i => Value.int .u64 (Om.at_ l zs i : Int)) ++ List.replicate (n - k) (.int .u64 0)
theorem nums_at (l : List UInt8) (zs : List Int) (n k : Nat) (h : k < n) : (nums l zs n k)[k]? = some (.int .u64 0) := by
  unfold nums
  rw [List.getElem?_append_right (by simp), List.getElem?_replicate, if_pos (by simp; omega)]
theorem nums_succ (l : List UInt8) (zs : List Int) (n k : Nat) (h : k < n) : (nums l zs n k).set k (.int .u64 (Om.at_ l zs k : Int)) = nums l zs n (k + 1) := by
  unfold nums
  obtain ⟨m, hm⟩ : ∃ m, n - k = m + 1 := ⟨n - k - 1, by omega⟩
  have hm' : n - (k + 1) = m := by omega
  rw [hm, hm', List.set_append_right _ _ (by simp), List.range_succ, List.map_append, List.replicate_succ]
  simp
theorem nums_full (l : List UInt8) (zs : List Int) (n i : Nat) (h : i < n) : (nums l zs n n)[i]? = some (.int .u64 (Om.at_ l zs i : Int)) := by
  unfold nums
  rw [List.getElem?_append_left (by simpa using h)]
  simp [h]

theorem read_sizes (l : List UInt8) (zs : List Int) (B : Nat) (a : Option Addr) (n cap : Nat) (w : World) (hl : zs.length = n) (hn : n ≤ 1099511627776) (hr : Row w B a n (szs zs)) (hok : Om.sizesOk zs = false) :
    Calls Try.prog 47 #[.string (Om.B l), .slice a n cap] w fun e w' => e = .panicked [{ v := .iface 76 (.agg #[]), recovered := false }] ∧ w = w' := by
  have hc := areSizes_any zs B a n cap w hl (by omega) hr
  rw [hok] at hc
  have HC := Lib.hid hc
  clear hok hl hr hc
  go_enter Try.func47, Try.ntmps47
  go_wp2_with fail
  refine HC.out.mono ?_
  rintro e w' ⟨rfl, rfl⟩
  go_wp2
  exact ⟨rfl, rfl, rfl⟩

/-- What read gives, where it gives something. -/
def ReadOk (l : List UInt8) (zs : List Int) (n : Nat) (w : World) (e : Ending) (w' : World) : Prop :=
  (Om.off zs n ≤ l.length ∧ e = .returned (.tuple #[.slice (some ⟨w.heap.size, 0, none⟩) n n, .string (Om.B (l.drop (Om.off zs n)))]) ∧ w'.ownsRow w.heap.size 38 1 (.slice (some ⟨w.heap.size, 0, none⟩) n n) n (nums l zs n n) ∧ Below w.heap.size w w') ∨
  (¬ Om.off zs n ≤ l.length ∧ e = .panicked [{ v := .iface 77 (.agg #[]), recovered := false }] ∧ Below w.heap.size w w')

set_option maxHeartbeats 800000 in
theorem read_any (l : List UInt8) (zs : List Int) (B : Nat) (a : Option Addr) (n cap : Nat) (w : World) (hl : zs.length = n) (hn : n ≤ 1099511627776) (hB : B ≤ w.heap.size) (hr : Row w B a n (szs zs)) (hok : Om.sizesOk zs = true) :
    Calls Try.prog 47 #[.string (Om.B l), .slice a n cap] w (ReadOk l zs n w) := by
  obtain ⟨i0, hi, hz0, hz1, hz2⟩ := info_parts info_u64
  have hc := areSizes_any zs B a n cap w hl (by omega) hr
  rw [hok] at hc
  have HC := Lib.hid hc
  have HOK := Lib.hid hok
  have HL := Lib.hid hl
  have HR := Lib.hid hr
  clear hok hl hr hc
  go_enter Try.func47, Try.ntmps47
  go_wp2_with fail
  refine HC.out.mono ?_
  rintro e w' ⟨rfl, rfl⟩
  go_wp2_with (refine wpList_make_full _ rfl _ _ 41 rfl w.heap.size 38 i0 (.int .u64 0) 1 Try.underlying41 hi hz0 hz1 .i64 .i64 _ _ n rfl rfl rfl rfl ?c1 ?c2 ?c3 ?_)
  case c1 => rw [hz2]; omega
  case c2 => unfold maxLen; omega
  case c3 => exact Nat.le_refl _
  intro w1 hown hgrow
  have hown0 : w1.ownsRow w.heap.size 38 1 (.slice (some ⟨w.heap.size, 0, none⟩) n n) n (nums l zs n 0) := by
    rw [toList_madeCells_one] at hown
    have e : nums l zs n 0 = List.replicate n (.int .u64 0) := by simp [nums]
    rw [e]
    exact hown
  have hbel0 : Below w.heap.size w w1 := (Below.refl _ _).grown hgrow (Nat.le_refl _) (fun j hj => by cases hj)
  clear hown hgrow
  go_wp2
  go_loopw [0, 19] (fun s i wr => ∃ k : Nat, k ≤ n ∧ i = .int .i64 k ∧ s = .string (Om.B (l.drop (Om.off zs k))) ∧ Om.off zs k ≤ l.length ∧ wr.ownsRow w.heap.size 38 1 (.slice (some ⟨w.heap.size, 0, none⟩) n n) n (nums l zs n k) ∧ Below w.heap.size w wr) (fun _ i _ => n - (intOf i).toNat)
  case atStart => exact ⟨0, Nat.zero_le _, rfl, by rw [Om.off_zero]; rfl, by rw [Om.off_zero]; omega, hown0, hbel0⟩
  case round =>
    obtain ⟨k, hk, rfl, rfl, hoff, hown, hbel⟩ := hrel
    have HO := Lib.hid hown
    have HB := Lib.hid hbel
    have HOFF := Lib.hid hoff
    clear hown0 hbel0 hown hbel hoff
    by_cases hlt : k < n
    · obtain ⟨ab, ao, rfl, hab, hac⟩ := HR.out (by omega)
      obtain ⟨d, hd⟩ : ∃ d : Nat, zs.getD k 0 = (d : Int) := Int.eq_ofNat_of_zero_le (Om.sizes_at zs HOK.out k).1
      have hd8 : d ≤ 8 := by have := (Om.sizes_at zs HOK.out k).2; omega
      have hcz : wr.cell? ⟨ab, ao + k, none⟩ = some (.int .i64 (d : Int)) := by
        rw [HB.out.cell (p := ⟨ab, ao + k, none⟩) (Nat.lt_of_lt_of_le hab hB), hac k hlt, szs, hd]
      have hos : Om.off zs (k + 1) = Om.off zs k + d := by rw [Om.off_succ zs k (by rw [HL.out]; exact hlt), hd, Int.toNat_natCast]
      have hat : Om.at_ l zs k = Om.num ((l.drop (Om.off zs k)).take d) := by unfold Om.at_; rw [hd, Int.toNat_natCast]
      have HOS := Lib.hid hos
      have HAT := Lib.hid hat
      clear hac hd hos hat
      by_cases hf : d ≤ (l.drop (Om.off zs k)).length
      · have hcell : wr.cell? ⟨w.heap.size, k, none⟩ = some (.int .u64 0) := by rw [HO.out.cellAt k (by omega), nums_at l zs n k hlt]
        have hfz := HO.out.frozenAt k
        have hst := HO.out.stored k (.int .u64 (Om.at_ l zs k : Int))
        rw [nums_succ l zs n k hlt, HAT.out] at hst
        have HS := Lib.hid hst
        have HF := Lib.hid hf
        clear hst hf
        go_wp2_with fail
        refine (first_any (l.drop (Om.off zs k)) d _ HF.out hd8).mono ?_
        rintro e w2 ⟨rfl, m, rfl⟩
        go_wp2
        go_roundw
        case rel =>
          refine ⟨k + 1, by omega, by go_num, by rw [HOS.out], ?_, HS.out.1, ?_⟩
          · have := HF.out
            rw [List.length_drop] at this
            have := HOFF.out
            rw [HOS.out]
            omega
          · exact below_drewN (HB.out.setCell (p := ⟨w.heap.size, k, none⟩) (Nat.le_refl _) _) m
        case measure => simp [intOf]; omega
      · have hbad : ¬ Om.off zs n ≤ l.length := by
          have h1 := Om.off_mono zs (k + 1) n (by omega)
          have h2 := HOS.out
          rw [List.length_drop] at hf
          omega
        have HBAD := Lib.hid hbad
        have HF := Lib.hid hf
        clear hbad hf
        go_wp2_with fail
        refine (first_cut (l.drop (Om.off zs k)) d _ (by have := HF.out; omega) hd8).mono ?_
        rintro e w2 ⟨rfl, rfl⟩
        go_wp2
        exact ⟨rfl, .inr ⟨HBAD.out, rfl, HB.out⟩⟩
    · obtain rfl : k = n := by omega
      go_wp2
      go_ret2
      exact .inl ⟨HOFF.out, rfl, HO.out, HB.out⟩
end Go.Proofs.Ytncbimgbjkdocaa
