/- The methods of gaps, and how an interface leads to them. -/
import Derived.Test.YtibemiiflibnaaaTabMem
import Derived.Test.YtibemiiflibnaaaTabLay
import Derived.WalkSpells
import Derived.WalkLawsBesides
import Derived.Deep.QuietTactic
import Derived.BigQuiet
import Derived.RegionTactic
import Derived.StillTailTactics
import Derived.Deep.RegionHeld3
import Derived.Laws.AppendOwn
import Derived.Deep.RegionLaw
import Derived.Deep.AppendLies
namespace Go.Proofs.Ytibemiiflibnaaa
namespace Tb
open Go.RowKit Dsk
set_option linter.unusedVariables false

/-- The cells of a row of numbers. -/
theorem ints_cell {w : World} {a : Option Addr} {c : Nat} {l : List Int} (h : Ints w (.slice a l.length c) l) (i : Nat) (hi : i < l.length) : ∃ b, a = some ⟨b, 0, none⟩ ∧ b < w.heap.size ∧ w.cell? ⟨b, i, none⟩ = some (.int .i64 (Hp.at_ l i)) ∧ w.frozen? ⟨b, i, none⟩ = false := by
  rcases h.2 with ⟨h1, h2⟩ | ⟨b, cap, cur, hv, _, hh, _⟩
  · omega
  · injection hv with h1 h2 h3
    subst h1
    subst h3
    refine ⟨b, rfl, lt_of_heap hh, ?_, frozen_of_row _ _ _ _ _ hh⟩
    rw [h.cellAt i (by omega), List.getElem?_map, Hp.at_get l i hi]
    rfl
theorem ints_slice {w : World} {v : Value} {l : List Int} (h : Ints w v l) : ∃ a c, v = .slice a l.length c := own_slice h
theorem ints_some {w : World} {a : Option Addr} {c : Nat} {l : List Int} (h : Ints w (.slice a l.length c) l) (hl : 0 < l.length) : ∃ b, a = some ⟨b, 0, none⟩ := by
  obtain ⟨b, e, _⟩ := ints_cell h 0 hl
  exact ⟨b, e⟩

theorem gap_less {w : World} {a : Option Addr} {c : Nat} {g : List Int} (h : Ints w (.slice a g.length c) g) (i j : Nat) (hi : i < g.length) (hj : j < g.length) (hg : g.length ≤ 2097152) :
    Calls Try.prog 93 #[.slice a g.length c, .int .i64 (i : Int), .int .i64 (j : Int)] w fun e w' => e = .returned (.bool (decide (Hp.at_ g i < Hp.at_ g j))) ∧ Below w.heap.size w w' := by
  obtain ⟨b, rfl, hb, hci, _⟩ := ints_cell h i hi
  obtain ⟨_, _, _, hcj, _⟩ := ints_cell h j hj
  cases ‹some _ = some _›
  obtain ⟨n, hn⟩ : ∃ n, n = g.length := ⟨_, rfl⟩
  obtain ⟨x, hx⟩ : ∃ x, x = Hp.at_ g i := ⟨_, rfl⟩
  obtain ⟨y, hy⟩ : ∃ y, y = Hp.at_ g j := ⟨_, rfl⟩
  rw [← hn] at hi hj hg ⊢
  rw [← hx] at hci ⊢
  rw [← hy] at hcj ⊢
  clear hn hx hy h
  go_enter Try.func93, Try.ntmps93
  go_wp2
  go_quiet (fail)
  go_wp2
  go_ret
  exact ⟨rfl, by first | exact Below.refl _ _ | exact (Below.refl _ _).drew | exact ⟨rfl, rfl, rfl, Nat.le_refl _, fun _ _ => rfl⟩⟩

theorem ints_set {w : World} {b cap : Nat} {l : List Int} (h : w.ownsRow 0 3 1 (.slice (some ⟨b, 0, none⟩) l.length cap) l.length (nums l)) (i : Nat) (x : Int) :
    (w.setCell ⟨b, i, none⟩ (.int .i64 x)).ownsRow 0 3 1 (.slice (some ⟨b, 0, none⟩) l.length cap) l.length (nums (l.set i x)) ∧ Fr (fun k => k = b) w (w.setCell ⟨b, i, none⟩ (.int .i64 x)) := by
  obtain ⟨h1, h2⟩ := h.stored i (.int .i64 x)
  refine ⟨?_, Fr.of_grown h2 (fun k e => by injection e with e; exact e.symm)⟩
  rw [nums, List.map_set]
  exact h1
theorem gap_swap {w : World} {a : Option Addr} {c : Nat} {g : List Int} (h : Ints w (.slice a g.length c) g) (i j : Nat) (hi : i < g.length) (hj : j < g.length) (hg : g.length ≤ 2097152) :
    Calls Try.prog 94 #[.slice a g.length c, .int .i64 (i : Int), .int .i64 (j : Int)] w fun e w' => e = .returned (.tuple #[]) ∧ Ints w' (.slice a g.length c) (Hp.swap g i j) ∧ Fr (fun k => (Value.slice a g.length c).ownBlock = some k) w w' := by
  obtain ⟨b, rfl, hb, hci, hfi⟩ := ints_cell h i hi
  obtain ⟨_, e, _, hcj, hfj⟩ := ints_cell h j hj
  cases e
  obtain ⟨n, hn⟩ : ∃ n, n = g.length := ⟨_, rfl⟩
  obtain ⟨x, hx⟩ : ∃ x, x = Hp.at_ g i := ⟨_, rfl⟩
  obtain ⟨y, hy⟩ : ∃ y, y = Hp.at_ g j := ⟨_, rfl⟩
  have H := Lib.hid h
  have HN := Lib.hid hn
  have HX := Lib.hid hx
  have HY := Lib.hid hy
  rw [← hn] at hi hj hg
  rw [← hx] at hci
  rw [← hy] at hcj
  rw [← hn]
  have done : ∀ w1 : World, (∀ k : Nat, w1.heap[k]? = w.heap[k]?) → w1.os = w.os → w1.tape = w.tape → w1.output = w.output → w1.heap.size = w.heap.size →
      Ints ((w1.setCell ⟨b, i, none⟩ (.int .i64 y)).setCell ⟨b, j, none⟩ (.int .i64 x)) (.slice (some ⟨b, 0, none⟩) n c) (Hp.swap g i j) ∧
      Fr (fun k => (Value.slice (some ⟨b, 0, none⟩) n c).ownBlock = some k) w ((w1.setCell ⟨b, i, none⟩ (.int .i64 y)).setCell ⟨b, j, none⟩ (.int .i64 x)) := by
    intro w1 hw1 ho ht hp hs
    have h1 : Ints w1 (.slice (some ⟨b, 0, none⟩) g.length c) g := own_same H.out fun k _ => hw1 k
    obtain ⟨r1, f1⟩ := ints_set h1 i y
    have r1' : (w1.setCell ⟨b, i, none⟩ (.int .i64 y)).ownsRow 0 3 1 (.slice (some ⟨b, 0, none⟩) (g.set i y).length c) (g.set i y).length (nums (g.set i y)) := by simpa using r1
    obtain ⟨r2, f2⟩ := ints_set r1' j x
    have f0 : Fr (fun k => k = b) w w1 := ⟨ho, ht, hp, by omega, fun k _ _ => hw1 k⟩
    refine ⟨?_, ((f0.trans f1 (fun _ _ e => e)).trans f2 (fun _ _ e => e)).mono (fun k _ e => by rw [e]; rfl)⟩
    have e : Hp.swap g i j = (g.set i y).set j x := by unfold Hp.swap; rw [← HX.out, ← HY.out]
    rw [e]
    show World.ownsRow _ _ _ _ _ _ _
    rw [HN.out]
    simpa using r2
  have hs1 : ∃ z, (w.setCell ⟨b, i, none⟩ (.int .i64 y)).cell? ⟨b, j, none⟩ = some (.int .i64 z) ∧ (w.setCell ⟨b, i, none⟩ (.int .i64 y)).frozen? ⟨b, j, none⟩ = false := by
    obtain ⟨r1, _⟩ := ints_set H.out i y
    have r1' : Ints (w.setCell ⟨b, i, none⟩ (.int .i64 y)) (.slice (some ⟨b, 0, none⟩) (g.set i y).length c) (g.set i y) := by show World.ownsRow _ _ _ _ _ _ _; simpa using r1
    obtain ⟨_, e, _, h1, h2⟩ := ints_cell r1' j (by simpa [← HN.out] using hj)
    cases e
    exact ⟨_, h1, h2⟩
  obtain ⟨z, hz1, hz2⟩ := hs1
  have DONE := Lib.hid done
  clear hn hx hy h done
  go_enter Try.func94, Try.ntmps94
  go_wp2
  go_region
  all_goals
    go_wp2
    go_end0
    first
    | exact ⟨rfl, DONE.out _ (fun _ => rfl) rfl rfl rfl rfl⟩
    | (refine ⟨rfl, ?_⟩; exact DONE.out w.drew (fun _ => rfl) rfl rfl rfl rfl)
theorem gap_len {w : World} (a : Option Addr) (n c : Nat) : Calls Try.prog 92 #[.slice a n c] w fun e w' => e = .returned (.int .i64 (n : Int)) ∧ w = w' := by
  go_enter Try.func92, Try.ntmps92
  go_wp2
  go_ret
  exact ⟨rfl, rfl⟩
end Tb
end Go.Proofs.Ytibemiiflibnaaa
