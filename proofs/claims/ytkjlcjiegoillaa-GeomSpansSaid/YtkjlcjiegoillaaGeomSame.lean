/- Two lists of pieces held side by side. -/
import Derived.Test.YtkjlcjiegoillaaGeomRef2
namespace Go.Proofs.Ytkjlcjiegoillaa
namespace Geo
open Go.RowKit
set_option linter.unusedVariables false

theorem below_drewn {b : Nat} {w w' : World} (h : Below b w w') (n : Nat) : Below b w (w'.drewN n) := ⟨h.os, h.tape, h.output, h.size, h.block⟩
/-- The document's row of pieces, read: whatever its length. -/
theorem rrow_any {w : World} {base : Nat} {v : Value} {l : List Em.Pc} (h : w.ownsRow base 52 3 v l.length (pcells l)) : ∃ p g c, v = .slice p l.length c ∧ (l ≠ [] → p = some ⟨g, 0, none⟩ ∧ base ≤ g ∧ g < w.heap.size) ∧
    ∀ i (hi : i < l.length), w.cell? ⟨g, i * 3, none⟩ = some (.int .i64 (l[i].c : Int)) ∧ w.cell? ⟨g, i * 3 + 1, none⟩ = some (.int .i64 (l[i].f : Int)) ∧ w.cell? ⟨g, i * 3 + 2, none⟩ = some (.int .i64 (l[i].n : Int)) := by
  rcases h.2 with ⟨h1, h0⟩ | ⟨g, cap, cur, rfl, hg, hh, h1, h2, h3, h4⟩
  · have hl : l = [] := List.length_eq_zero_iff.1 h0
    subst hl
    exact ⟨none, 0, 0, h1, fun c => (c rfl).elim, fun i hi => by simp at hi⟩
  · refine ⟨_, g, cap, rfl, fun _ => ⟨rfl, hg, (Array.getElem?_eq_some_iff.1 hh).1⟩, fun i hi => ?_⟩
    have hp := pcells_length l
    have get : ∀ j x, (pcells l)[j]? = some x → w.cell? ⟨g, j, none⟩ = some x := fun j x hj => by
      rw [cell_of_row _ _ _ _ _ _ hh]
      have hjl := (List.getElem?_eq_some_iff.1 hj).1
      have hj2 := hj
      rw [← h4, List.getElem?_take, if_pos (by omega)] at hj2
      simpa using hj2
    obtain ⟨a, b, c⟩ := pcells_get l i hi
    rw [Nat.mul_comm i 3]
    exact ⟨get _ _ a, get _ _ b, get _ _ c⟩

/-- The program's row of pieces, read. -/
theorem row_any' {w : World} {base : Nat} {v : Value} {l : List Em.Pc} (h : w.ownsRow base 43 3 v l.length (pcells l)) : ∃ p g c, v = .slice p l.length c ∧ (l ≠ [] → p = some ⟨g, 0, none⟩ ∧ base ≤ g ∧ g < w.heap.size) ∧
    ∀ i (hi : i < l.length), w.cell? ⟨g, i * 3, none⟩ = some (.int .i64 (l[i].c : Int)) ∧ w.cell? ⟨g, i * 3 + 1, none⟩ = some (.int .i64 (l[i].f : Int)) ∧ w.cell? ⟨g, i * 3 + 2, none⟩ = some (.int .i64 (l[i].n : Int)) := by
  by_cases hl : l = []
  · subst hl
    rcases h.2 with ⟨h1, h0⟩ | ⟨g, cap, cur, rfl, _⟩
    · exact ⟨none, 0, 0, h1, fun c => (c rfl).elim, fun i hi => by simp at hi⟩
    · exact ⟨_, g, cap, rfl, fun c => (c rfl).elim, fun i hi => by simp at hi⟩
  · obtain ⟨g, c, e, h1, h2, h3⟩ := row_cells h hl
    exact ⟨_, g, c, e, fun _ => ⟨rfl, h1, h2⟩, fun i hi => by rw [Nat.mul_comm i 3]; exact h3 i hi⟩
set_option maxRecDepth 100000 in
set_option maxHeartbeats 1000000 in
theorem same_any {w : World} (l : List Em.Pc) (n : Nat) (hn : n = l.length) (hn2 : n ≤ 9223372036854775807) (p q : Option Addr) (g j c d : Nat) (hp : l ≠ [] → p = some ⟨g, 0, none⟩) (hq : l ≠ [] → q = some ⟨j, 0, none⟩)
    (h1 : ∀ i (hi : i < l.length), w.cell? ⟨g, i * 3, none⟩ = some (.int .i64 (l[i].c : Int)) ∧ w.cell? ⟨g, i * 3 + 1, none⟩ = some (.int .i64 (l[i].f : Int)) ∧ w.cell? ⟨g, i * 3 + 2, none⟩ = some (.int .i64 (l[i].n : Int)))
    (h2 : ∀ i (hi : i < l.length), w.cell? ⟨j, i * 3, none⟩ = some (.int .i64 (l[i].c : Int)) ∧ w.cell? ⟨j, i * 3 + 1, none⟩ = some (.int .i64 (l[i].f : Int)) ∧ w.cell? ⟨j, i * 3 + 2, none⟩ = some (.int .i64 (l[i].n : Int))) :
    Calls Try.prog 11 #[.slice p n c, .slice q n d] w fun e w' => e = .returned (.bool true) ∧ Below w.heap.size w w' := by
  have HP := Lib.hid hp
  have HQ := Lib.hid hq
  have H1 := Lib.hid h1
  have H2 := Lib.hid h2
  have HN := Lib.hid hn
  have hne : ((n : Int) != (n : Int)) = false := by simp
  clear hp hq h1 h2 hn
  go_enter Try.func11, Try.ntmps11
  go_wp2_with fail
  go_loopw [5] (fun i wr => ∃ k nq : Nat, k ≤ n ∧ i = .int .i64 k ∧ wr = w.drewN nq) (fun i _ => n - (intOf i).toNat)
  case atStart => exact ⟨0, 0, Nat.zero_le _, rfl, rfl⟩
  case round =>
    obtain ⟨k, nq, hk, rfl, rfl⟩ := hrel
    by_cases hlt : k < n
    · have hkl : k < l.length := by rw [← HN.out]; exact hlt
      have hne : l ≠ [] := by intro e; rw [e] at hkl; simp at hkl
      obtain rfl := HP.out hne
      obtain rfl := HQ.out hne
      obtain ⟨r0, r1, r2⟩ := H1.out k hkl
      obtain ⟨s0, s1, s2⟩ := H2.out k hkl
      obtain ⟨⟨pc, pf, pn⟩, hx⟩ : ∃ x, x = l[k] := ⟨_, rfl⟩
      rw [← hx] at r0 r1 r2 s0 s1 s2
      dsimp only at r0 r1 r2 s0 s1 s2
      have hd : decide ((k : Int) < (n : Int)) = true := by simp; omega
      have hd2 : decide (k < n) = true := by simp; omega
      clear hkl hne hx HP HQ
      go_wp2_with fail
      go_quiet (fail)
      go_wp2_with fail
      go_roundw
      case rel => exact ⟨k + 1, _, by omega, by go_num, rfl⟩
      case measure => simp [intOf]; omega
    · have hd : decide ((k : Int) < (n : Int)) = false := by simp; omega
      have hd2 : decide (k < n) = false := by simp; omega
      go_wp2_with fail
      go_ret
      exact ⟨rfl, below_drewn (Below.refl _ _) nq⟩
end Geo
end Go.Proofs.Ytkjlcjiegoillaa
