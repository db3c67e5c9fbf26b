/- The document's number of figures is the program's. -/
import Derived.Test.YtheldnamllnkeaaDoorDmpRefL
import Derived.Test.YtheldnamllnkeaaDoorDmpBack
namespace Go.Proofs.YtheldnamllnkeaaDoor
namespace Pd
set_option linter.unusedVariables false

/-- As the document reckons. -/
def numD : Nat → List UInt8 → Option Nat
  | acc, [] => some acc
  | acc, c :: r => if 48 ≤ c.toNat ∧ c.toNat ≤ 57 then (if 4294967295 < 10 * acc + (c.toNat - 48) then none else numD (10 * acc + (c.toNat - 48)) r) else none
def numR (l : List UInt8) : Option Nat := if l = [] ∨ (1 < l.length ∧ l.headD 0 = 48) then none else numD 0 l
theorem numD_parse : ∀ (l : List UInt8) (acc : Nat), acc ≤ 4294967295 → numD acc l = match Lib.parseUintM 4294967295 acc l with | .ok n => some n | _ => none
  | [], acc, h => rfl
  | c :: r, acc, h => by
    unfold numD
    rw [Lib.parseUintM]
    split
    · rename_i hc
      rw [if_neg (show ¬ 1844674407370955162 ≤ acc by omega), Nat.mul_comm 10 acc]
      split
      · rfl
      · rename_i hs
        exact numD_parse r _ (by omega)
    · rfl
theorem parse_pos : ∀ (l : List UInt8) (acc n : Nat), Lib.parseUintM 4294967295 acc l = .ok n → 1 ≤ acc → 1 ≤ n
  | [], acc, n, h, ha => by cases h; exact ha
  | c :: r, acc, n, h, ha => by
    rw [Lib.parseUintM] at h
    split at h
    · split at h
      · cases h
      · split at h
        · cases h
        · exact parse_pos r _ n h (by omega)
    · cases h
theorem parse_first {c : UInt8} {r : List UInt8} {n : Nat} (h : Lib.parseUintM 4294967295 0 (c :: r) = .ok n) (hc : c ≠ 48) : 1 ≤ n := by
  rw [Lib.parseUintM] at h
  split at h
  · rename_i hd
    split at h
    · cases h
    · split at h
      · cases h
      · refine parse_pos r _ n h ?_
        have : c.toNat ≠ 48 := fun e => hc (UInt8.toNat_inj.1 (by rw [e]; rfl))
        omega
  · cases h
/-- Figures with no nought ahead are the number's own. -/
theorem parse_own : ∀ (k : Nat) (l : List UInt8) (n : Nat), l.length = k → l ≠ [] → (1 < l.length → l.headD 0 ≠ 48) → Lib.parseUintM 4294967295 0 l = .ok n → Lib.decDigits n = l
  | 0, l, n, hk, hl, _, _ => absurd (List.eq_nil_of_length_eq_zero hk) hl
  | k + 1, l, n, hk, hl, hz, h => by
    obtain ⟨p, c, rfl⟩ : ∃ p c, l = p ++ [c] := ⟨l.dropLast, l.getLast hl, (List.dropLast_concat_getLast hl).symm⟩
    rw [parseM_append] at h
    cases p with
    | nil =>
      have h : Lib.parseUintM 4294967295 0 [c] = .ok n := h
      rw [Lib.parseUintM] at h
      split at h
      · rename_i hd
        rw [if_neg (by omega), if_neg (by omega)] at h
        cases h
        rw [Lib.decDigits_one (by omega)]
        show [_] = [c]
        rw [show 48 + (0 * 10 + (c.toNat - 48)) = c.toNat from by omega, UInt8.ofNat_toNat]
      · cases h
    | cons d q =>
      have hd : d ≠ 48 := hz (by simp)
      rcases hp : Lib.parseUintM 4294967295 0 (d :: q) with a | _ | _
      all_goals rw [hp] at h
      all_goals first
        | (cases h; done)
        | (have ha := parse_first hp hd
           have hown := parse_own k (d :: q) _ (by simpa using hk) (by simp) (fun _ => hd) hp
           have h : Lib.parseUintM 4294967295 _ [c] = .ok n := h
           rw [Lib.parseUintM] at h
           split at h
           · rename_i hc
             split at h
             · cases h
             · split at h
               · cases h
               · cases h
                 rw [digits_step (by omega), show (a * 10 + (c.toNat - 48)) / 10 = a from by omega, hown, show 48 + (a * 10 + (c.toNat - 48)) % 10 = c.toNat from by omega, UInt8.ofNat_toNat]
           · cases h)
theorem digits_ne (n : Nat) : Lib.decDigits n ≠ [] := by
  by_cases h : n < 10
  · rw [Lib.decDigits_one h]; simp
  · rw [digits_step h]; simp
/-- A number's own figures have no nought ahead. -/
theorem digits_head (n : Nat) : 1 ≤ n → (Lib.decDigits n).headD 0 ≠ 48 := by
  induction n using Nat.strongRecOn with
  | ind n ih =>
    intro hn
    by_cases h : n < 10
    · rw [Lib.decDigits_one h]
      intro e
      have e : UInt8.ofNat (48 + n) = 48 := e
      have := congrArg UInt8.toNat e
      rw [dig_nat n h] at this
      have h48 : (48 : UInt8).toNat = 48 := rfl
      omega
    · rw [digits_step h]
      have := ih (n / 10) (by omega) (by omega)
      cases hd : Lib.decDigits (n / 10) with
      | nil => exact absurd hd (digits_ne _)
      | cons x y => rw [hd] at this; exact this
/-- The two are one. -/
theorem numR_eq (l : List UInt8) : numR l = numW l := by
  unfold numR numW Lib.parseUintB
  by_cases hl : l = []
  · rw [if_pos (.inl hl), if_pos hl]
  · rw [if_neg hl, show 2 ^ 32 - 1 = 4294967295 from rfl]
    by_cases hz : 1 < l.length ∧ l.headD 0 = 48
    · rw [if_pos (.inr hz)]
      rcases hp : Lib.parseUintM 4294967295 0 l with n | _ | _
      all_goals first
        | rfl
        | (show none = if Lib.decDigits n = l then some n else none
           rw [if_neg]
           intro e
           rcases Nat.eq_zero_or_pos n with h0 | h0
           · rw [h0, Lib.decDigits_one (by omega)] at e
             have := hz.1
             rw [← e] at this
             simp at this
           · exact digits_head n h0 (by rw [e]; exact hz.2))
    · rw [if_neg (by rintro (h | h); exact hl h; exact hz h), numD_parse l 0 (by omega)]
      rcases hp : Lib.parseUintM 4294967295 0 l with n | _ | _
      all_goals first
        | rfl
        | (show some n = if Lib.decDigits n = l then some n else none
           rw [if_pos (parse_own _ l n rfl hl (fun h e => hz ⟨h, e⟩) hp)])
end Pd
end Go.Proofs.YtheldnamllnkeaaDoor
