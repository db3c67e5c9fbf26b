/- A bit of 64 bytes turned, as the statements of head, slot and super turn it. -/
import Derived.Test.YtncbimgbjkdocaaCrcOpen
import Derived.IntWalk
namespace Go.Proofs.Ytncbimgbjkdocaa
open Go.RowKit
set_option maxRecDepth 100000
set_option linter.unusedVariables false

theorem str_drew (W : World) (y : Nat) (hy : y < 256) : (convert 33 9 (.slice (some ⟨W.heap.size, 0, none⟩) 1 1)).run Try.prog (W.alloc (.cells #[.int .u8 (y : Int)] 5)).drew = .ok (.string (Om.B [UInt8.ofNat y])) (W.alloc (.cells #[.int .u8 (y : Int)] 5)).drew := by
  have e : (y : Int) = ((UInt8.ofNat y).toNat : Int) := by rw [UInt8.toNat_ofNat']; omega
  rw [e]
  exact run_convert_bytes_back (P := Try.prog) (W.alloc (.cells #[.int .u8 ((UInt8.ofNat y).toNat : Int)] 5)).drew 33 9 5 ⟨W.heap.size, 0, none⟩ 1 [UInt8.ofNat y] Try.underlying33 Try.underlying5 Try.underlying9 (fun i hi => by
    have : i = 0 := by simpa using hi
    subst this
    simp [Addr.add])
theorem place_int (A : Nat) (h : A < 65536) : (wrap64 ((wrap64 (A : Int)).tdiv 8)).tmod 64 = ((A / 8 % 64 : Nat) : Int) := by
  have e1 : wrap64 (A : Int) = (A : Int) := by unfold wrap64; omega
  have e2 : ((A : Int)).tdiv 8 = ((A / 8 : Nat) : Int) := by rw [Int.tdiv_eq_ediv_of_nonneg (by omega)]; omega
  have e3 : wrap64 ((A / 8 : Nat) : Int) = ((A / 8 : Nat) : Int) := by unfold wrap64; omega
  rw [e1, e2, e3, Int.tmod_eq_emod_of_nonneg (by omega)]
  omega
theorem bit_int (A : Nat) (h : A < 65536) : ((A : Int)).tmod 8 = ((A % 8 : Nat) : Int) := by
  rw [Int.tmod_eq_emod_of_nonneg (by omega)]
  omega
/-- What is known of 64 bytes, and of those with a bit turned. -/
theorem sec_turn (S : List UInt8) (hl : S.length = 64) (j m : Nat) (hj : j < 64) (hm : m < 8) : ∃ (s : ByteArray) (T p q : List UInt8) (y0 y : Nat) (hj' : j < s.size), s = Om.B S ∧ s.size = 64 ∧ (s[j]'hj').toNat = y0 ∧ y0 < 256 ∧ bits .xor .u8 (y0 : Int) ((2 : Int) ^ m % 256) = (y : Int) ∧ bits .xor .u8 (y0 : Int) (IntKind.u8.wrap ((2 : Int) ^ m)) = (y : Int) ∧ y < 256 ∧
    s.extract 0 j = Om.B p ∧ s.extract (j + 1) 64 = Om.B q ∧ (Om.B p ++ Om.B [UInt8.ofNat y]) ++ Om.B q = Om.B T ∧
    ¬ 9223372036854775807 < (Om.B p).size + (Om.B [UInt8.ofNat y]).size ∧ ¬ 9223372036854775807 < (Om.B p ++ Om.B [UInt8.ofNat y]).size + (Om.B q).size ∧ T = S.set j (UInt8.ofNat y) ∧ S[j]? ≠ some (UInt8.ofNat y) := by
  have hjl : j < S.length := by omega
  have hy0 : (S[j]'hjl).toNat < 256 := UInt8.toNat_lt _
  have hm2 : 2 ^ m < 256 := by
    have : 2 ^ m ≤ 2 ^ 7 := Nat.pow_le_pow_right (by omega) (by omega)
    omega
  have hm0 : 0 < 2 ^ m := Nat.pow_pos (by omega)
  have hy : (S[j]'hjl).toNat ^^^ 2 ^ m < 256 := Nat.xor_lt_two_pow (n := 8) hy0 hm2
  have hpw : (2 : Int) ^ m = ((2 ^ m : Nat) : Int) := by simp
  have hx0 := u8_xor_nat (S[j]'hjl).toNat (2 ^ m) hy0 hm2
  have hxa : bits .xor .u8 ((S[j]'hjl).toNat : Int) ((2 : Int) ^ m % 256) = (((S[j]'hjl).toNat ^^^ 2 ^ m : Nat) : Int) := by
    rw [hpw, Int.emod_eq_of_lt (by omega) (by omega)]; exact hx0
  have hxb : bits .xor .u8 ((S[j]'hjl).toNat : Int) (IntKind.u8.wrap ((2 : Int) ^ m)) = (((S[j]'hjl).toNat ^^^ 2 ^ m : Nat) : Int) := by
    rw [hpw, IntWalk.u8_in _ (by omega)]; exact hx0
  have e := Om.extract_end (Om.B S) (j + 1)
  rw [show (Om.B S).size = 64 from hl, Om.L_B] at e
  refine ⟨Om.B S, S.set j (UInt8.ofNat ((S[j]'hjl).toNat ^^^ 2 ^ m)), S.take j, S.drop (j + 1), (S[j]'hjl).toNat, (S[j]'hjl).toNat ^^^ 2 ^ m, hjl, rfl, hl, rfl, hy0, hxa, hxb, hy, ?_, e, ?_, ?_, ?_, rfl, ?_⟩
  · rw [Om.extract_front, Om.L_B]
  · rw [Om.B_append, Om.B_append, List.set_eq_take_append_cons_drop, if_pos hjl, List.append_assoc]
    rfl
  · exact no_over _ _ (by rw [List.length_take]; simp; omega)
  · rw [Om.B_append]
    exact no_over _ _ (by rw [List.length_append, List.length_take, List.length_drop]; simp; omega)
  · rw [List.getElem?_eq_getElem hjl]
    intro c
    injection c with c
    have c2 : (UInt8.ofNat ((S[j]'hjl).toNat ^^^ 2 ^ m)).toNat = (S[j]'hjl).toNat := by rw [← c]
    rw [UInt8.toNat_ofNat', Nat.mod_eq_of_lt hy] at c2
    have c3 : (S[j]'hjl).toNat ^^^ 2 ^ m = (S[j]'hjl).toNat ^^^ 0 := by rw [c2, Nat.xor_zero]
    have := Cm.xor_left c3
    omega
end Go.Proofs.Ytncbimgbjkdocaa
