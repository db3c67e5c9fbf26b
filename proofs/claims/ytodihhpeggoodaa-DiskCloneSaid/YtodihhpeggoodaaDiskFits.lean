/- The contract of the statements' Fits. -/
import Derived.Test.YtodihhpeggoodaaDiskArgs
import Derived.Test.YtodihhpeggoodaaDiskAlive
namespace Go.Proofs.Ytodihhpeggoodaa
namespace Dsk
open Go.RowKit
set_option linter.unusedVariables false

def small (x : Ac) : Bool := decide (x.d.length ≤ 1000) && decide (x.ks.length ≤ 200)
def fitB (xs : List Ac) : Bool := (xs.take 61).all small && decide (xs.length ≤ 60)
theorem fit_true {xs : List Ac} (h : fitB xs = true) : xs.length ≤ 60 ∧ ∀ i (hi : i < xs.length), xs[i].d.length ≤ 1000 ∧ xs[i].ks.length ≤ 200 := by
  unfold fitB at h
  rw [Bool.and_eq_true, List.all_eq_true] at h
  have h2 : xs.length ≤ 60 := by simpa using h.2
  refine ⟨h2, fun i hi => ?_⟩
  have := h.1 xs[i] (by rw [List.take_of_length_le (by omega)]; exact List.getElem_mem hi)
  unfold small at this
  simpa using this
theorem fit_bad {xs : List Ac} {k : Nat} (hk : k < xs.length) (h61 : k ≤ 60) (h : small xs[k] = false) : fitB xs = false := by
  unfold fitB
  rw [Bool.and_eq_false_iff]
  left
  rw [List.all_eq_false]
  refine ⟨xs[k], ?_, by rw [h]; decide⟩
  rw [List.mem_take_iff_getElem]
  exact ⟨k, by omega, rfl⟩
theorem fit_all {xs : List Ac} {k : Nat} (h : ∀ i (hi : i < xs.length), i < k → small xs[i] = true) (hk : k = xs.length ∨ k = 61) : fitB xs = decide (xs.length ≤ 60) := by
  unfold fitB
  rw [show (xs.take 61).all small = true from ?_, Bool.true_and]
  rw [List.all_eq_true]
  intro x hx
  rw [List.mem_take_iff_getElem] at hx
  obtain ⟨i, hi, rfl⟩ := hx
  exact h i (by omega) (by omega)

theorem fits_any {w : World} {a : Option Addr} {xs : List Ac} {c : Nat} (hl : xs.length ≤ 9223372036854775807) (h : Acts w a xs) : Calls Try.prog 6 #[.slice a xs.length c] w fun e w' => e = .returned (.bool (fitB xs)) ∧ w = w' := by
  have HA := Lib.hid h
  obtain ⟨n, hn⟩ : ∃ n, n = xs.length := ⟨_, rfl⟩
  rw [← hn] at hl ⊢
  have HN := Lib.hid hn
  clear h hn
  go_enter Try.func6, Try.ntmps6
  go_wp2
  go_loop [3] (fun i => ∃ k : Nat, k ≤ n ∧ k ≤ 61 ∧ i = .int .i64 (k : Int) ∧ Hid (∀ i (hi : i < xs.length), i < k → small xs[i] = true)) (fun i => 61 - (intOf i).toNat)
  case atStart => exact ⟨0, Nat.zero_le _, by decide, rfl, Lib.hid (fun i _ h => absurd h (by omega))⟩
  case round =>
    obtain ⟨k, hk, h61, rfl, hsm⟩ := hrel
    by_cases hlt : k < n
    · have hd : decide (k < n) = true := by simpa using hlt
      by_cases hle : k ≤ 60
      · have hd2 : decide ((k : Int) ≤ 60) = true := by simp; omega
        have hkx : k < xs.length := by rw [← HN.out]; exact hlt
        obtain ⟨b, off, rfl, hb, hat⟩ := HA.out (by omega)
        have hx := hat k hkx
        obtain ⟨x, hxe⟩ : ∃ x, x = xs[k] := ⟨_, rfl⟩
        rw [← hxe] at hx
        have g3 := hx.c3
        have g4 := hx.c4
        have hsz := Om.B_size x.d
        have hdl := hx.d
        have hkl := hx.ks
        obtain ⟨nd, hnd⟩ : ∃ nd, nd = x.d.length := ⟨_, rfl⟩
        obtain ⟨nk, hnk⟩ : ∃ nk, nk = x.ks.length := ⟨_, rfl⟩
        rw [← hnd] at hsz hdl
        rw [← hnk] at g4 hkl
        have hsmall : small x = (decide (nd ≤ 1000) && decide (nk ≤ 200)) := by unfold small; rw [← hnd, ← hnk]
        have HSM := Lib.hid hsmall
        have HXE := Lib.hid hxe
        clear hat hx hxe hsmall hnd hnk
        by_cases h1 : nd ≤ 1000
        · have hd3 : decide (1000 < (nd : Int)) = false := by simp; omega
          by_cases h2 : nk ≤ 200
          · have hd4 : decide (200 < (nk : Int)) = false := by simp; omega
            go_wp2
            go_round
            case rel =>
              refine ⟨k + 1, by omega, by omega, by go_num, Lib.hid (fun i hi hik => ?_)⟩
              by_cases e : i < k
              · exact hsm.out i hi e
              · obtain rfl : i = k := by omega
                rw [← HXE.out, HSM.out]
                simp [h1, h2]
            case measure => simp [intOf]; omega
          · have hd4 : decide (200 < (nk : Int)) = true := by simp; omega
            go_wp2
            go_ret
            exact ⟨by rw [fit_bad hkx hle (by rw [← HXE.out, HSM.out]; simp [h2])]; rfl, rfl⟩
        · have hd3 : decide (1000 < (nd : Int)) = true := by simp; omega
          go_wp2
          go_ret
          exact ⟨by rw [fit_bad hkx hle (by rw [← HXE.out, HSM.out]; simp [h1])]; rfl, rfl⟩
      · have hd2 : decide ((k : Int) ≤ 60) = false := by simp; omega
        have hf := fit_all hsm.out (.inr (by omega))
        have hd3 : decide ((n : Int) ≤ 60) = false := by simp; omega
        have HF : Hid (fitB xs = false) := by show _ = _; rw [hf, ← HN.out]; simp; omega
        clear hf
        go_wp2
        go_ret
        exact ⟨by rw [HF.out]; rfl, rfl⟩
    · have hd : decide (k < n) = false := by simpa using hlt
      have hf := fit_all hsm.out (.inl (by rw [← HN.out]; omega))
      by_cases h60 : n ≤ 60
      · have hd3 : decide ((n : Int) ≤ 60) = true := by simp; omega
        have HF : Hid (fitB xs = true) := by show _ = _; rw [hf, ← HN.out]; simp; omega
        clear hf
        go_wp2
        go_ret
        exact ⟨by rw [HF.out]; rfl, rfl⟩
      · have hd3 : decide ((n : Int) ≤ 60) = false := by simp; omega
        have HF : Hid (fitB xs = false) := by show _ = _; rw [hf, ← HN.out]; simp; omega
        clear hf
        go_wp2
        go_ret
        exact ⟨by rw [HF.out]; rfl, rfl⟩
end Dsk
end Go.Proofs.Ytodihhpeggoodaa
