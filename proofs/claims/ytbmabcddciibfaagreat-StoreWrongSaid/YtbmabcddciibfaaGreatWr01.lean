/- Part 1 of the contracts and of the plain mathematics that the proof of the law rests on: GeomMath, GeomRight, GeomWalks, GeomPages, GeomRooms. -/
import Derived.Test.YtbmabcddciibfaaGreatProg
import Derived.WalkKit
import Derived.OwnWalk
import Derived.Below
import Derived.Laws.Rows
import Derived.Laws.OwnMore
import Derived.Laws.NewBlocks
import Derived.Lib.Hide
import Derived.Deep.QuietTactic
import Derived.BigQuiet
import Derived.RegionTactic
import Derived.StillTailTactics
import Derived.Deep.RegionHeld3
import Derived.WalkSpells
import Derived.WalkLawsBesides
import Derived.Outline
namespace Go.Proofs.YtbmabcddciibfaaGreat
namespace Em
set_option linter.unusedVariables false
def rightB (o c : Int) : Bool := decide (1 ≤ o) && (decide (o ≤ 1048576) && (decide (1 ≤ c) && decide (c ≤ 128)))
theorem right_iff (o c : Int) : rightB o c = true ↔ 1 ≤ o ∧ o ≤ 1048576 ∧ 1 ≤ c ∧ c ≤ 128 := by
  unfold rightB; simp
def parts (n s : Nat) : Nat := n / s + (if n % s = 0 then 0 else 1)
theorem parts_le (n s : Nat) : parts n s ≤ n := by
  unfold parts
  have h1 : n / s ≤ n := Nat.div_le_self n s
  by_cases e : n % s = 0
  · rw [if_pos e]; exact h1
  · rw [if_neg e]
    rcases Nat.eq_zero_or_pos s with h | h
    · subst h; simp at e ⊢; omega
    · by_cases h2 : s = 1
      · subst h2; omega
      · have hn : 0 < n := by
          rcases Nat.eq_zero_or_pos n with h3 | h3
          · subst h3; simp at e
          · exact h3
        have := Nat.div_lt_self hn (by omega : 1 < s)
        omega
structure Pc where
  c : Nat
  f : Nat
  n : Nat
def cut (c : Nat) : Nat → Nat → Nat → List Pc
  | 0, _, _ => []
  | k + 1, next, stop => if next < stop then ⟨next / c, next % c, min (c - next % c) (stop - next)⟩ :: cut c k (next + min (c - next % c) (stop - next)) stop else []
def split (c a n : Nat) : List Pc := cut c n a (a + n)
def size (c n : Nat) : Nat := 1 + parts n 13 + n * c
def room (c s : Nat) : Nat := (s - 1) / (1 + 13 * c) * 13 + ((s - 1) % (1 + 13 * c) - 1) / c
theorem parts_13 (n : Nat) : parts n 13 = (n + 12) / 13 := by unfold parts; split <;> omega
theorem size_mono {c a b : Nat} (h : a ≤ b) : size c a ≤ size c b := by
  unfold size
  rw [parts_13, parts_13]
  have := Nat.mul_le_mul_right c h
  omega
theorem room_fits {c s : Nat} (hc : 0 < c) : (0 < room c s → size c (room c s) ≤ s) ∧ s < size c (room c s + 1) := by
  obtain ⟨F, hF⟩ : ∃ F, F = 1 + 13 * c := ⟨_, rfl⟩
  obtain ⟨b, hb⟩ : ∃ b, b = s - 1 := ⟨_, rfl⟩
  obtain ⟨q, hq⟩ : ∃ q, q = b / F := ⟨_, rfl⟩
  obtain ⟨r, hr⟩ : ∃ r, r = b % F := ⟨_, rfl⟩
  obtain ⟨t, ht⟩ : ∃ t, t = (r - 1) / c := ⟨_, rfl⟩
  have hFp : 0 < F := by omega
  have hdm := Nat.div_add_mod b F
  rw [← hq, ← hr] at hdm
  have hrl : r < F := by rw [hr]; exact Nat.mod_lt _ hFp
  have htm := Nat.div_add_mod (r - 1) c
  rw [← ht] at htm
  have htl : (r - 1) % c < c := Nat.mod_lt _ hc
  have e : room c s = q * 13 + t := by unfold room; rw [← hF, ← hb, ← hq, ← hr, ← ht]
  rw [e]
  have hFq : F * q = q + 13 * (c * q) := by rw [hF, Nat.add_mul, Nat.one_mul, Nat.mul_assoc]
  have ht13 : t ≤ 13 := by
    rcases Nat.lt_or_ge 13 t with h | h
    · have : c * 14 ≤ c * t := Nat.mul_le_mul_left c h
      omega
    · exact h
  have ht13' : t = 13 → r - 1 = 13 * c := by
    intro h
    rw [h] at htm
    omega
  have e1 : (q * 13 + t) * c = 13 * (c * q) + c * t := by rw [Nat.add_mul, Nat.mul_comm t c, Nat.mul_right_comm, Nat.mul_comm q c, Nat.mul_comm]
  have e2 : (q * 13 + t + 1) * c = 13 * (c * q) + c * t + c := by rw [Nat.add_mul, e1, Nat.one_mul]
  have hct : t = 0 → c * t = 0 := fun h => by rw [h, Nat.mul_zero]
  constructor
  · intro hpos
    unfold size
    rw [parts_13, e1]
    rcases Nat.eq_zero_or_pos t with h0 | h0
    · have := hct h0
      omega
    · have h1 : c * 1 ≤ c * t := Nat.mul_le_mul_left c h0
      omega
  · unfold size
    rw [parts_13, e2]
    omega
end Em
end Go.Proofs.YtbmabcddciibfaaGreat
namespace Go.Proofs.YtbmabcddciibfaaGreat
namespace Geo
open Go.RowKit
set_option linter.unusedVariables false
theorem cell_alloc2 (w : World) (o c : Int) : (w.alloc (.cells #[.int .i64 o, .int .i64 c] 137)).cell? ⟨w.heap.size, 0, none⟩ = some (.int .i64 o) ∧ (w.alloc (.cells #[.int .i64 o, .int .i64 c] 137)).cell? ⟨w.heap.size, 1, none⟩ = some (.int .i64 c) := by
  have h : (w.alloc (.cells #[.int .i64 o, .int .i64 c] 137)).heap[w.heap.size]? = some (.cells #[.int .i64 o, .int .i64 c] 137 (0, 0)) := by
    show (w.heap.push _)[w.heap.size]? = _
    rw [Array.getElem?_push_size]
  exact ⟨by rw [cell_of_row _ _ _ _ _ _ h]; rfl, by rw [cell_of_row _ _ _ _ _ _ h]; rfl⟩
theorem right_any (o c : Int) (w : World) : Calls Tryz.prog 109 #[.agg #[.int .i64 o, .int .i64 c]] w fun e w' => e = .returned (.bool (Em.rightB o c)) ∧ Below w.heap.size w w' := by
  have hB : Below w.heap.size w (w.alloc (.cells #[.int .i64 o, .int .i64 c] 137)) := (Below.refl _ w).alloc (Nat.le_refl _) _
  by_cases h1 : 1 ≤ o
  · by_cases h2 : o ≤ 1048576
    · by_cases h3 : 1 ≤ c
      · have hr : Em.rightB o c = decide (c ≤ 128) := by unfold Em.rightB; simp [h1, h2, h3]
        have HR := Lib.hid hr
        clear hr
        go_enter Tryz.func109, Tryz.ntmps109
        go_wp2_with fail
        go_ret
        exact ⟨by rw [HR.out]; rfl, hB⟩
      · have hr : Em.rightB o c = false := by unfold Em.rightB; simp [h1, h2, h3]
        have HR := Lib.hid hr
        clear hr
        have hd : decide (1 ≤ c) = false := by simpa using h3
        go_enter Tryz.func109, Tryz.ntmps109
        go_wp2_with fail
        go_ret
        exact ⟨by rw [HR.out]; rfl, hB⟩
    · have hr : Em.rightB o c = false := by unfold Em.rightB; simp [h1, h2]
      have HR := Lib.hid hr
      clear hr
      have hd : decide (o ≤ 1048576) = false := by simpa using h2
      go_enter Tryz.func109, Tryz.ntmps109
      go_wp2_with fail
      go_ret
      exact ⟨by rw [HR.out]; rfl, hB⟩
  · have hr : Em.rightB o c = false := by unfold Em.rightB; simp [h1]
    have HR := Lib.hid hr
    clear hr
    have hd : decide (1 ≤ o) = false := by simpa using h1
    go_enter Tryz.func109, Tryz.ntmps109
    go_wp2_with fail
    go_ret
    exact ⟨by rw [HR.out]; rfl, hB⟩
end Geo
end Go.Proofs.YtbmabcddciibfaaGreat
namespace Go.Proofs.YtbmabcddciibfaaGreat
namespace Geo
open Go.RowKit
set_option linter.unusedVariables false
theorem parts_any (n s : Nat) (w : World) (hs : 1 ≤ s) (hn : n ≤ 9223372036854775807) (hs2 : s ≤ 9223372036854775807) : Calls Tryz.prog 153 #[.int .i64 (n : Int), .int .i64 (s : Int)] w fun e w' => e = .returned (.int .i64 (Em.parts n s : Nat)) ∧ w = w' := by
  have h0 : n / s ≤ n := Nat.div_le_self n s
  have hle := Em.parts_le n s
  obtain ⟨q, hqe⟩ : ∃ q, q = n / s := ⟨_, rfl⟩
  have hq : (n : Int) / (s : Int) = (q : Int) := by rw [hqe]; exact (Int.natCast_ediv n s).symm
  have hq1 : q ≤ 9223372036854775807 := by omega
  by_cases h : n % s = 0
  · have e : Em.parts n s = q := by unfold Em.parts; rw [if_pos h, hqe]; rfl
    rw [e]
    have hd : ((n : Int) % (s : Int) != 0) = false := by rw [← Int.natCast_emod]; simp; omega
    clear e hle h0 h hqe
    go_enter Tryz.func153, Tryz.ntmps153
    go_wp2_with fail
    go_ret
    exact ⟨rfl, rfl⟩
  · have e : Em.parts n s = q + 1 := by unfold Em.parts; rw [if_neg h, hqe]
    rw [e] at hle ⊢
    have hq2 : q + 1 ≤ 9223372036854775807 := by omega
    have hd : ((n : Int) % (s : Int) != 0) = true := by rw [← Int.natCast_emod]; simp; omega
    clear e hle h0 h hqe
    go_enter Tryz.func153, Tryz.ntmps153
    go_wp2_with fail
    go_ret
    exact ⟨rfl, rfl⟩
def refuse (o c n lo hi : Int) : Int := if Em.rightB o c = true then (if n < lo ∨ hi < n then 2 else 0) else 1
theorem refuse_any (o c n lo hi : Int) (w : World) : Calls Tryz.prog 145 #[.agg #[.int .i64 o, .int .i64 c], .int .i64 n, .int .i64 lo, .int .i64 hi] w fun e w' => e = .returned (.int .i64 (refuse o c n lo hi)) ∧ Below w.heap.size w w' := by
  have C := fun w1 => Lib.hid (right_any o c w1)
  obtain ⟨r, hr⟩ : ∃ r, r = Em.rightB o c := ⟨_, rfl⟩
  rw [← hr] at C
  have hB : Below w.heap.size w (w.alloc (.cells #[.int .i64 o, .int .i64 c] 137)) := (Below.refl _ w).alloc (Nat.le_refl _) _
  have HB := Lib.hid hB
  clear hB
  cases r with
  | false =>
    have e : refuse o c n lo hi = 1 := by unfold refuse; rw [← hr]; rfl
    rw [e]
    clear hr e
    go_enter Tryz.func145, Tryz.ntmps145
    go_wp2_with fail
    refine (C _).out.mono ?_
    rintro e w1 ⟨rfl, hb⟩
    have HB1 := Lib.hid (HB.out.trans (hb.mono HB.out.size))
    clear hb
    go_wp2_with fail
    go_ret
    exact ⟨rfl, HB1.out⟩
  | true =>
    by_cases h1 : n < lo
    · have e : refuse o c n lo hi = 2 := by unfold refuse; rw [← hr, if_pos rfl, if_pos (.inl h1)]
      rw [e]
      clear hr e
      go_enter Tryz.func145, Tryz.ntmps145
      go_wp2_with fail
      refine (C _).out.mono ?_
      rintro e w1 ⟨rfl, hb⟩
      have HB1 := Lib.hid (HB.out.trans (hb.mono HB.out.size))
      clear hb
      go_wp2_with fail
      go_ret
      exact ⟨rfl, HB1.out⟩
    · by_cases h2 : hi < n
      · have e : refuse o c n lo hi = 2 := by unfold refuse; rw [← hr, if_pos rfl, if_pos (.inr h2)]
        rw [e]
        clear hr e
        have hd : decide (n < lo) = false := by simpa using h1
        go_enter Tryz.func145, Tryz.ntmps145
        go_wp2_with fail
        refine (C _).out.mono ?_
        rintro e w1 ⟨rfl, hb⟩
        have HB1 := Lib.hid (HB.out.trans (hb.mono HB.out.size))
        clear hb
        go_wp2_with fail
        go_ret
        exact ⟨rfl, HB1.out⟩
      · have e : refuse o c n lo hi = 0 := by unfold refuse; rw [← hr, if_pos rfl, if_neg (by omega)]
        rw [e]
        clear hr e
        have hd : decide (n < lo) = false := by simpa using h1
        have hd2 : decide (hi < n) = false := by simpa using h2
        go_enter Tryz.func145, Tryz.ntmps145
        go_wp2_with fail
        refine (C _).out.mono ?_
        rintro e w1 ⟨rfl, hb⟩
        have HB1 := Lib.hid (HB.out.trans (hb.mono HB.out.size))
        clear hb
        go_wp2_with fail
        go_ret
        exact ⟨rfl, HB1.out⟩
end Geo
end Go.Proofs.YtbmabcddciibfaaGreat
namespace Go.Proofs.YtbmabcddciibfaaGreat
namespace Geo
open Go.RowKit
set_option linter.unusedVariables false
theorem pages_ok (o c : Int) (n : Nat) (w : World) (hr : Em.rightB o c = true) (hn : n ≤ 9223372036854775807) : Calls Tryz.prog 130 #[.agg #[.int .i64 o, .int .i64 c], .int .i64 (n : Int)] w fun e w' => e = .returned (.int .i64 (Em.parts n 13 : Nat)) ∧ Below w.heap.size w w' := by
  have C := fun w1 => Lib.hid (right_any o c w1)
  rw [hr] at C
  have D := fun w1 => Lib.hid (parts_any n 13 w1 (by omega) (by omega) (by omega))
  have HB : Hid (Below w.heap.size w (w.alloc (.cells #[.int .i64 o, .int .i64 c] 137))) := (Below.refl _ w).alloc (Nat.le_refl _) _
  have hd : decide ((n : Int) < 0) = false := by simp
  clear hr
  go_enter Tryz.func130, Tryz.ntmps130
  go_wp2_with fail
  refine (C _).out.mono ?_
  rintro e w1 ⟨rfl, hb⟩
  have HB1 := Lib.hid (HB.out.trans (hb.mono HB.out.size))
  clear hb
  go_wp2_with fail
  refine (D _).out.mono ?_
  rintro e w2 ⟨rfl, rfl⟩
  go_wp2_with fail
  go_ret
  exact ⟨rfl, HB1.out⟩
theorem refuse_ok {o c n lo hi : Int} (hr : Em.rightB o c = true) (h1 : lo ≤ n) (h2 : n ≤ hi) : refuse o c n lo hi = 0 := by unfold refuse; rw [if_pos hr, if_neg (by omega)]
end Geo
end Go.Proofs.YtbmabcddciibfaaGreat
namespace Go.Proofs.YtbmabcddciibfaaGreat
namespace Geo
open Go.RowKit
set_option linter.unusedVariables false
def noneE (n : Nat) : Int := if n = 0 then 111 else 0
theorem noneE_pos {n : Nat} (h : n ≠ 0) : noneE n = 0 := if_neg h
theorem room_walk (o c s b r u q t : Nat) (w : World) (hr : Em.rightB o c = true) (hs : s ≤ 1048576) (hb : s = 0 ∧ b = 0 ∨ s = b + 1) (hu : r = 0 ∧ u = 0 ∨ r = u + 1) (hq : q = b / (1 + 13 * c)) (hrr : r = b % (1 + 13 * c)) (ht : t = u / c) :
    Calls Tryz.prog 121 #[.agg #[.int .i64 (o : Int), .int .i64 (c : Int)], .int .i64 (s : Int)] w fun e w' => e = .returned (.tuple #[.int .i64 ((q * 13 + t : Nat) : Int), .int .i64 (noneE (q * 13 + t))]) ∧ Below w.heap.size w w' := by
  have C := fun w1 => Lib.hid (refuse_any o c s 0 1048576 w1)
  rw [refuse_ok hr (by omega) (by omega)] at C
  obtain ⟨h1, h2, h3, h4⟩ := (Em.right_iff _ _).1 hr
  have hc1 : 1 ≤ c := by omega
  have hc2 : c ≤ 128 := by omega
  have hb2 : b ≤ 1048576 := by omega
  have hql : q ≤ b := by rw [hq]; exact Nat.div_le_self _ _
  have htl : t ≤ u := by rw [ht]; exact Nat.div_le_self _ _
  have hrl : r ≤ 1664 := by have := Nat.mod_lt b (show 0 < 1 + 13 * c by omega); omega
  have hqi : (b : Int) / (1 + 13 * (c : Int)) = (q : Int) := by rw [hq]; simp
  have hri : (b : Int) % (1 + 13 * (c : Int)) = (r : Int) := by rw [hrr]; simp
  have hti : (u : Int) / (c : Int) = (t : Int) := by rw [ht]; simp
  have HB : Hid (Below w.heap.size w (w.alloc (.cells #[.int .i64 (o : Int), .int .i64 (c : Int)] 137))) := (Below.refl _ w).alloc (Nat.le_refl _) _
  have hg0 := cell_alloc2 w (o : Int) (c : Int)
  have HZ : Hid (q * 13 + t = 0 ↔ q * 13 + t = 0) := Iff.rfl
  have hX : ∀ x : Nat, (x : Int) = 0 ↔ x = 0 := fun x => by omega
  have HX := Lib.hid hX
  have HQ := Lib.hid (show (q : Int) * 13 + (t : Int) = ((q * 13 + t : Nat) : Int) by simp)
  have hr0 : b = 0 → r = 0 := fun h => by rw [hrr, h, Nat.zero_mod]
  have ht0 : u = 0 → t = 0 := fun h => by rw [ht, h, Nat.zero_div]
  clear hr h1 h2 h3 h4 hq hrr ht HZ hX HX HQ
  rcases hb with ⟨rfl, rfl⟩ | rfl
  · obtain rfl : q = 0 := by omega
    rcases hu with ⟨rfl, rfl⟩ | rfl
    · obtain rfl : t = 0 := ht0 rfl
      clear htl hr0 ht0 hqi hri hti hs hb2 hql hrl
      have k1 : (0 : Int) / (1 + 13 * (c : Int)) = 0 := Int.zero_ediv _
      have k2 : (0 : Int) % (1 + 13 * (c : Int)) = 0 := Int.zero_emod _
      have k3 : (0 : Int) / (c : Int) = 0 := Int.zero_ediv _
      go_enter Tryz.func121, Tryz.ntmps121
      go_wp2_with fail
      refine (C _).out.mono ?_
      rintro e w1 ⟨rfl, hb⟩
      have c0 := (hb.cell (p := ⟨w.heap.size, 0, none⟩) (by simp)).trans hg0.1
      have c1 := (hb.cell (p := ⟨w.heap.size, 1, none⟩) (by simp)).trans hg0.2
      have HB1 := Lib.hid (HB.out.trans (hb.mono HB.out.size))
      clear hb hg0
      go_wp2_with fail
      go_region
      go_wp2_with fail
      go_ret2
      exact ⟨rfl, HB1.out.drew⟩
    · have := hr0 rfl
      omega
  · clear hr0
    rcases hu with ⟨rfl, rfl⟩ | rfl
    · obtain rfl : t = 0 := ht0 rfl
      clear ht0 hti
      have k3 : (0 : Int) / (c : Int) = 0 := Int.zero_ediv _
      have hri' : (b : Int) % (1 + 13 * (c : Int)) = 0 := hri
      clear hri
      by_cases hz : q = 0
      · subst hz
        have hqi' : (b : Int) / (1 + 13 * (c : Int)) = 0 := hqi
        clear hqi
        go_enter Tryz.func121, Tryz.ntmps121
        go_wp2_with fail
        refine (C _).out.mono ?_
        rintro e w1 ⟨rfl, hb⟩
        have c0 := (hb.cell (p := ⟨w.heap.size, 0, none⟩) (by simp)).trans hg0.1
        have c1 := (hb.cell (p := ⟨w.heap.size, 1, none⟩) (by simp)).trans hg0.2
        have HB1 := Lib.hid (HB.out.trans (hb.mono HB.out.size))
        clear hb hg0
        go_wp2_with fail
        go_region
        go_wp2_with fail
        go_ret2
        exact ⟨rfl, HB1.out.drew⟩
      · have hz2 : ((q : Int) * 13 == 0) = false := by simp; omega
        have HZ := Lib.hid hz
        clear hz
        go_enter Tryz.func121, Tryz.ntmps121
        go_wp2_with fail
        refine (C _).out.mono ?_
        rintro e w1 ⟨rfl, hb⟩
        have c0 := (hb.cell (p := ⟨w.heap.size, 0, none⟩) (by simp)).trans hg0.1
        have c1 := (hb.cell (p := ⟨w.heap.size, 1, none⟩) (by simp)).trans hg0.2
        have HB1 := Lib.hid (HB.out.trans (hb.mono HB.out.size))
        clear hb hg0
        go_wp2_with fail
        go_region
        go_wp2_with fail
        go_ret2
        exact ⟨by rw [noneE_pos (by have := HZ.out; omega)]; simp, HB1.out.drew⟩
    · clear ht0
      have hri' : (b : Int) % (1 + 13 * (c : Int)) = (u : Int) + 1 := by rw [hri]; simp
      clear hri
      by_cases hz : q * 13 + t = 0
      · obtain rfl : q = 0 := by omega
        obtain rfl : t = 0 := by omega
        have hqi' : (b : Int) / (1 + 13 * (c : Int)) = 0 := hqi
        have hti' : (u : Int) / (c : Int) = 0 := hti
        clear hqi hti hz
        go_enter Tryz.func121, Tryz.ntmps121
        go_wp2_with fail
        refine (C _).out.mono ?_
        rintro e w1 ⟨rfl, hb⟩
        have c0 := (hb.cell (p := ⟨w.heap.size, 0, none⟩) (by simp)).trans hg0.1
        have c1 := (hb.cell (p := ⟨w.heap.size, 1, none⟩) (by simp)).trans hg0.2
        have HB1 := Lib.hid (HB.out.trans (hb.mono HB.out.size))
        clear hb hg0
        go_wp2_with fail
        go_region
        go_wp2_with fail
        go_ret2
        exact ⟨rfl, HB1.out.drew⟩
      · have hz2 : ((q : Int) * 13 + (t : Int) == 0) = false := by simp; omega
        have HZ := Lib.hid hz
        clear hz
        go_enter Tryz.func121, Tryz.ntmps121
        go_wp2_with fail
        refine (C _).out.mono ?_
        rintro e w1 ⟨rfl, hb⟩
        have c0 := (hb.cell (p := ⟨w.heap.size, 0, none⟩) (by simp)).trans hg0.1
        have c1 := (hb.cell (p := ⟨w.heap.size, 1, none⟩) (by simp)).trans hg0.2
        have HB1 := Lib.hid (HB.out.trans (hb.mono HB.out.size))
        clear hb hg0
        go_wp2_with fail
        go_region
        go_wp2_with fail
        go_ret2
        exact ⟨by rw [noneE_pos HZ.out]; simp, HB1.out.drew⟩
theorem room_ok (o c s : Nat) (w : World) (hr : Em.rightB o c = true) (hs : s ≤ 1048576) : Calls Tryz.prog 121 #[.agg #[.int .i64 (o : Int), .int .i64 (c : Int)], .int .i64 (s : Int)] w fun e w' => e = .returned (.tuple #[.int .i64 (Em.room c s : Nat), .int .i64 (noneE (Em.room c s))]) ∧ Below w.heap.size w w' :=
  room_walk o c s (s - 1) ((s - 1) % (1 + 13 * c)) ((s - 1) % (1 + 13 * c) - 1) ((s - 1) / (1 + 13 * c)) (((s - 1) % (1 + 13 * c) - 1) / c) w hr hs (by omega) (by omega) rfl rfl rfl
end Geo
end Go.Proofs.YtbmabcddciibfaaGreat
