/- Contract of the document's own Number. -/
import Derived.Test.YtncbimgbjkdocaaOctetPut
import Derived.Outline
namespace Go.Proofs.Ytncbimgbjkdocaa
open Go.RowKit
set_option maxRecDepth 100000
set_option linter.unusedVariables false

theorem num_step (l : List UInt8) (j : Nat) (h : j < l.length) : Om.num (l.drop j) = l[j].toNat + 256 * Om.num (l.drop (j + 1)) := by
  rw [List.drop_eq_getElem_cons h, Om.num]

theorem number_any (l : List UInt8) (w : World) (h : l.length ≤ 8) : Calls Try.prog 48 #[.string (Om.B l)] w fun e w' => e = .returned (.int .u64 (Om.num l : Int)) ∧ w = w' := by
  have hs : (Om.B l).size ≤ 8 := h
  have hsz : (Om.B l).size = l.length := rfl
  have HSZ := Lib.hid hsz
  clear hsz
  go_enter Try.func48, Try.ntmps48
  go_wp2
  go_loop [3, 4] (fun n i => ∃ k : Nat, k ≤ (Om.B l).size ∧ i = .int .i64 ((k : Int) - 1) ∧ n = .int .u64 (Om.num (l.drop k) : Int)) (fun _ i => (intOf i + 1).toNat)
  case atStart => exact ⟨(Om.B l).size, Nat.le_refl _, rfl, by rw [HSZ.out, List.drop_length]; rfl⟩
  case round =>
    obtain ⟨k, hk, rfl, rfl⟩ := hrel
    by_cases h0 : k = 0
    · subst h0
      go_wp2
      go_ret
      exact ⟨rfl, rfl⟩
    · obtain ⟨j, rfl⟩ : ∃ j, k = j + 1 := ⟨k - 1, by omega⟩
      have hjs : j < (Om.B l).size := by omega
      have e1 : ((j + 1 : Nat) : Int) - 1 = (j : Int) := by omega
      rw [e1]
      have hnum : Om.num (l.drop j) = ((Om.B l)[j]).toNat + 256 * Om.num (l.drop (j + 1)) := num_step l j hjs
      have hb : Om.num (l.drop (j + 1)) < 72057594037927936 := by
        have h1 := Om.num_lt (l.drop (j + 1))
        have h2 : 256 ^ (l.drop (j + 1)).length ≤ 256 ^ 7 := Nat.pow_le_pow_right (by omega) (by rw [List.length_drop]; omega)
        omega
      have hb2 : ((Om.B l)[j]).toNat < 256 := UInt8.toNat_lt _
      have HN := Lib.hid hnum
      clear hnum e1
      obtain ⟨x, hx⟩ : ∃ x, x = Om.num (l.drop (j + 1)) := ⟨_, rfl⟩
      rw [← hx] at hb ⊢
      have HX := Lib.hid hx
      clear hx
      go_wp2
      go_round
      case rel => exact ⟨j, by omega, by go_num, by rw [HN.out, ← HX.out]; go_num⟩
      case measure => simp [intOf]
end Go.Proofs.Ytncbimgbjkdocaa
