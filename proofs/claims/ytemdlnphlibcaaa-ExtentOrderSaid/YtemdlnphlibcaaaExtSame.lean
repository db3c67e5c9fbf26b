/- The document's calls, all outcomes in one; two lists that are one. -/
import Derived.Test.YtemdlnphlibcaaaExtAlive
import Derived.Test.YtemdlnphlibcaaaExtRFit
namespace Go.Proofs.Ytemdlnphlibcaaa
namespace Xm
open Go.RowKit
set_option maxRecDepth 100000
set_option linter.unusedVariables false

theorem rgaps_any (s l : Int) {u : List (Int × Int)} {n : Nat} (hi : In u n) (p : Option Addr) (c : Nat) (w : World) (hu : Exts w p u) :
    Calls Try.prog 8 #[.agg #[.int .i64 s, .int .i64 l], .slice p n c] w fun e w' => ∃ q d, e = .returned (.tuple #[.slice q (gapsR s l u).length d, .int .i64 (gapsE s l u)]) ∧ Exts w' q (gapsR s l u) ∧ Below w.heap.size w w' := by
  have h63 : n ≤ 4611686018427387904 := by have := hi.bytes; omega
  unfold gapsR gapsE
  cases h : okB s l u with
  | false => exact (rgaps_no s l u n hi.size h63 p c w hu h).mono fun e w' ⟨h1, h2⟩ => ⟨none, 0, h1, Exts.nil _ _, h2⟩
  | true =>
    refine (rgaps_ok s l u n hi.size h63 p c w hu h).mono fun e w' ⟨v, h1, h2, h3⟩ => ?_
    obtain ⟨q, d, rfl, hq⟩ := Exts.own h2
    exact ⟨q, d, h1, hq, h3⟩
theorem rfit_any (s l m : Int) {u : List (Int × Int)} {n : Nat} (hi : In u n) (p : Option Addr) (c : Nat) (w : World) (hu : Exts w p u) :
    Calls Try.prog 10 #[.agg #[.int .i64 s, .int .i64 l], .int .i64 m, .slice p n c] w fun e w' => e = .returned (.tuple #[.agg #[.int .i64 (fitS s l m u), .int .i64 (fitL s l m u)], .int .i64 (fitE s l m u)]) ∧ Below w.heap.size w w' := by
  have h63 : n ≤ 4611686018427387904 := by have := hi.bytes; omega
  by_cases h : okB s l u = true ∧ 1 ≤ m
  · exact rfit_ok s l m u n hi.size h63 p c w hu h.1 h.2
  · obtain ⟨q1, q2, q3⟩ := fit_no (l := l) h
    rw [q1, q2, q3]
    exact rfit_no s l m u n hi.size h63 p c w hu h
theorem rfree_any (s l : Int) {u : List (Int × Int)} {n : Nat} (hi : In u n) (p : Option Addr) (c : Nat) (w : World) (hu : Exts w p u) :
    Calls Try.prog 15 #[.agg #[.int .i64 s, .int .i64 l], .slice p n c] w fun e w' => e = .returned (.int .i64 (freeR s l u)) ∧ Below w.heap.size w w' := by
  have h63 : n ≤ 4611686018427387904 := by have := hi.bytes; omega
  unfold freeR
  cases h : okB s l u with
  | false => exact rfree_no s l u n hi.size h63 p c w hu h
  | true => exact rfree_ok s l u n hi.size h63 p c w hu h
theorem rright_in (s l : Int) {u : List (Int × Int)} {n : Nat} (hi : In u n) (p : Option Addr) (c : Nat) (w : World) (hu : Exts w p u) :
    Calls Try.prog 13 #[.agg #[.int .i64 s, .int .i64 l], .slice p n c] w fun e w' => e = .returned (.bool (okB s l u)) ∧ Below w.heap.size w w' :=
  rright_any s l u n hi.size (by have := hi.bytes; omega) p c w hu

theorem same_any {w : World} (l : List (Int × Int)) (n : Nat) (hn : n = l.length) (hn2 : n ≤ 9223372036854775807) (p q : Option Addr) (c d : Nat) (h1 : Exts w p l) (h2 : Exts w q l) :
    Calls Try.prog 11 #[.slice p n c, .slice q n d] w fun e w' => e = .returned (.bool true) ∧ Below w.heap.size w w' := by
  have H1 := Lib.hid h1
  have H2 := Lib.hid h2
  have HN := Lib.hid hn
  have hne : ((n : Int) != (n : Int)) = false := by simp
  clear h1 h2 hn
  go_enter Try.func11, Try.ntmps11
  go_wp2_with fail
  go_loopw [5] (fun i wr => ∃ k nq : Nat, k ≤ n ∧ i = .int .i64 k ∧ wr = w.drewN nq) (fun i _ => n - (intOf i).toNat)
  case atStart => exact ⟨0, 0, Nat.zero_le _, rfl, rfl⟩
  case round =>
    obtain ⟨k, nq, hk, rfl, rfl⟩ := hrel
    by_cases hlt : k < n
    · have hkl : k < l.length := by rw [← HN.out]; exact hlt
      have hne : l ≠ [] := by intro e; rw [e] at hkl; simp at hkl
      obtain ⟨b, off, rfl, _, hc⟩ := H1.out hne
      obtain ⟨b2, off2, rfl, _, hc2⟩ := H2.out hne
      obtain ⟨r0, r1⟩ := hc k hkl
      obtain ⟨s0, s1⟩ := hc2 k hkl
      obtain ⟨⟨xa, xb⟩, hx⟩ : ∃ x, x = l[k] := ⟨_, rfl⟩
      rw [← hx] at r0 r1 s0 s1
      dsimp only at r0 r1 s0 s1
      have hd : decide ((k : Int) < (n : Int)) = true := by simp; omega
      have hd2 : decide (k < n) = true := by simp; omega
      clear hkl hne hx hc hc2
      go_wp2_with fail
      go_quiet (fail)
      go_wp2_with fail
      go_roundw
      case rel => exact ⟨k + 1, _, by omega, by go_num, rfl⟩
      case measure => simp [intOf]; omega
    · have hd : decide ((k : Int) < (n : Int)) = false := by simp; omega
      have hd2 : decide (k < n) = false := by simp; omega
      go_wp2_with fail
      go_ret
      exact ⟨rfl, below_draws (Below.refl _ _) nq⟩
end Xm
end Go.Proofs.Ytemdlnphlibcaaa
