/- Two rows of exceptions held against each other. -/
import Derived.Test.YtheldnamllnkeaaDoorEnts
import Derived.WalkSpells
import Derived.LoopTactic
import Derived.Deep.QuietTactic
import Derived.BigQuiet
import Derived.RegionTactic
namespace Go.Proofs.YtheldnamllnkeaaDoor
namespace Tb
open Go.RowKit Dsk Go.Maps
set_option linter.unusedVariables false
set_option maxRecDepth 100000

/-- A number, read off a value. -/
def numOf : Value → Int
  | .int _ n => n
  | _ => 0
theorem _root_.Go.Proofs.YtheldnamllnkeaaDoor.Dsk.below_q {B : Nat} {w w1 : World} (h : Below B w w1) (n : Nat) : Below B w (w1.drewN n) := ⟨h.os, h.tape, h.output, h.size, h.block⟩
theorem esame_rows {w : World} {a b : Option Addr} {c d : Nat} {l : List (Int × Int)} (hx : REnts w a l) (hy : REnts w b l) (hl : l.length ≤ 9223372036854775806) :
    Calls Tryd.prog 27 #[.slice a l.length c, .slice b l.length d] w fun e w' => e = .returned (.bool true) ∧ Below w.heap.size w w' := by
  have HX := Lib.hid hx
  have HY := Lib.hid hy
  obtain ⟨n, hn⟩ : ∃ n, n = l.length := ⟨_, rfl⟩
  have HN := Lib.hid hn
  rw [← hn] at hl ⊢
  have hne : (((n : Nat) : Int) != (n : Int)) = false := by simp
  clear hx hy hn
  go_enter Tryd.func27, Tryd.ntmps27
  go_wp2
  go_loopw [5] (fun i wr => ∃ k : Nat, k ≤ n ∧ i = .int .i64 k ∧ Hid (Below w.heap.size w wr)) (fun i _ => n - (numOf i).toNat)
  case atStart => exact ⟨0, Nat.zero_le _, rfl, Lib.hid (Below.refl _ _)⟩
  case round =>
    obtain ⟨k, hk, rfl, hw⟩ := hrel
    by_cases hlt : k < n
    · have t1 : decide ((k : Int) < (n : Int)) = true := by simp; omega
      have t2 : decide (k < n) = true := by simp; omega
      have hkl : k < l.length := by have := HN.out; omega
      obtain ⟨ab, ao, h1, c1, c3⟩ := HX.out.get hw.out hkl
      obtain ⟨bb, bo, h2, c2, c4⟩ := HY.out.get hw.out hkl
      subst h1 h2
      obtain ⟨x, hx⟩ : ∃ x, x = l[k].1 := ⟨_, rfl⟩
      obtain ⟨y, hy⟩ : ∃ y, y = l[k].2 := ⟨_, rfl⟩
      rw [← hx] at c1 c2
      rw [← hy] at c3 c4
      have h3 : (x != x) = false := by simp
      have h4 : (y != y) = false := by simp
      have h5 : (x == x) = true := by simp
      have h6 : (y == y) = true := by simp
      have hk0 : (0 : Int) ≤ (k : Int) := by omega
      have hk1 : (k : Int) < (n : Int) := by omega
      have hw1 : IntKind.i64.wrap ((k : Int) + 1) = ((k + 1 : Nat) : Int) := by rw [IntWalk.i64_in _ (by omega)]; rfl
      clear hx hy hkl
      go_wp2
      go_quiet (fail)
      go_wp2
      go_roundw
      case rel => exact ⟨k + 1, by omega, by go_num, Lib.hid (by first | exact Dsk.below_q hw.out _ | exact hw.out)⟩
      case measure => simp [numOf]; omega
    · obtain rfl : k = n := by omega
      have t1 : decide ((k : Int) < (k : Int)) = false := by simp
      have t2 : decide (k < k) = false := by simp
      go_wp2
      go_ret
      exact ⟨rfl, hw.out⟩
theorem esame_yes {w : World} {a b : Option Addr} {c d : Nat} {l : List (Int × Int)} (hx : Ents w (.slice a l.length c) l) (hy : Ents w (.slice b l.length d) l) (hl : l.length ≤ 1099511627776) :
    Calls Tryd.prog 27 #[.slice a l.length c, .slice b l.length d] w fun e w' => e = .returned (.bool true) ∧ Below w.heap.size w w' := esame_rows (REnts.own hx) (REnts.own hy) (by omega)
end Tb
end Go.Proofs.YtheldnamllnkeaaDoor
