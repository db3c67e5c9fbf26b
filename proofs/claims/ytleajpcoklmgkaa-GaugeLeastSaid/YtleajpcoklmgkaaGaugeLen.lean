/- The contract of math/bits.Len64, laid off the shelf in plain words: for every uint64 the number of its bits. -/
import Derived.Shelf.Strconv.Itoa0
import Derived.Test.YtleajpcoklmgkaaProg
namespace Go.Proofs.Ytleajpcoklmgkaa
open Go.Shelf
def lay129_ren : Go.Shelf.Ren := ⟨fun | 129 => 38 | n => n, fun | 53 => 22 | 3 => 3 | 4 => 4 | 46 => 64 | 5 => 5 | 9 => 9 | n => n, fun | n => n⟩
theorem lay129 : Go.Proofs.Lays.n129 Try.prog lay129_ren := {
  mixed := by kernel_rfl
  f129 := Try.func38.trans (congrArg some (by kernel_rfl))
  t3 := Try.underlying3
  a3 := Try.isAgg3
  z3 := Try.sizeOf3
  v3 := Try.zeroValue3
  t4 := Try.underlying4
  a4 := Try.isAgg4
  z4 := Try.sizeOf4
  v4 := Try.zeroValue4
  t5 := Try.underlying5
  a5 := Try.isAgg5
  z5 := Try.sizeOf5
  v5 := Try.zeroValue5
  t9 := Try.underlying9
  a9 := Try.isAgg9
  z9 := Try.sizeOf9
  v9 := Try.zeroValue9
  t46 := Try.underlying64
  a46 := Try.isAgg64
  z46 := Try.sizeOf64
  v46 := Try.zeroValue64
  t53 := Try.underlying22
  a53 := Try.isAgg22
  z53 := Try.sizeOf22
  v53 := Try.zeroValue22 }

theorem bitLen_log (x : Nat) (h : x ≠ 0) (h' : x < 18446744073709551616) : Lib.bitLen x = x.log2 + 1 := by
  have h1 := Nat.log2_self_le h
  have h2 := @Nat.lt_log2_self x
  rw [Lib.bitLen_shift x.log2 x h1 h']
  have e : x / 2 ^ x.log2 = 1 := by
    rw [Nat.pow_succ] at h2
    have hp := Nat.two_pow_pos x.log2
    have a := (Nat.le_div_iff_mul_le hp).2 (show 1 * 2 ^ x.log2 ≤ x by omega)
    have b := (Nat.div_lt_iff_lt_mul hp).2 (show x < 2 * 2 ^ x.log2 by omega)
    omega
  rw [e]
  rfl

theorem len64_any (x : Nat) (w : World) (h : x ≠ 0) (h' : x < 18446744073709551616) :
    Calls Try.prog 38 #[.int .u64 (x : Int)] w fun e w' => e = .returned (.int .i64 ((x.log2 : Int) + 1)) ∧ w = w' := by
  refine (Any.bits_Len64 lay129 (x : Int) w (by omega) (by omega)).mono ?_
  rintro e w' ⟨he, hw⟩
  refine ⟨?_, hw.symm⟩
  rw [he, Int.toNat_natCast, bitLen_log x h h']
  rfl
end Go.Proofs.Ytleajpcoklmgkaa
