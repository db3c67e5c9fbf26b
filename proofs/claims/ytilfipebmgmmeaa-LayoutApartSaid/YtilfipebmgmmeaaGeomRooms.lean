/- Contract of a geometry's Room. -/
import Derived.Test.YtilfipebmgmmeaaGeomPages
namespace Go.Proofs.Ytilfipebmgmmeaa
namespace Geo
open Go.RowKit
set_option linter.unusedVariables false

theorem room_no (o c s : Int) (w : World) (hr : refuse o c s 0 1048576 ≠ 0) : Calls Try.prog 22 #[.agg #[.int .i64 o, .int .i64 c], .int .i64 s] w fun e w' => e = .returned (.tuple #[.int .i64 0, .int .i64 (refuse o c s 0 1048576)]) ∧ Below w.heap.size w w' := by
  have C := fun w1 => Lib.hid (refuse_any o c s 0 1048576 w1)
  obtain ⟨e, he⟩ : ∃ e, e = refuse o c s 0 1048576 := ⟨_, rfl⟩
  rw [← he] at hr C ⊢
  have HB : Hid (Below w.heap.size w (w.alloc (.cells #[.int .i64 o, .int .i64 c] 34))) := (Below.refl _ w).alloc (Nat.le_refl _) _
  have hd : (e != 0) = true := by simpa using hr
  clear hr he
  go_enter Try.func22, Try.ntmps22
  go_wp2_with fail
  refine (C _).out.mono ?_
  rintro e w1 ⟨rfl, hb⟩
  have HB1 := Lib.hid (HB.out.trans (hb.mono HB.out.size))
  clear hb
  go_wp2_with fail
  go_ret2
  exact ⟨rfl, HB1.out⟩
/-- Is there room for none? -/
def noneE (n : Nat) : Int := if n = 0 then 111 else 0
theorem noneE_pos {n : Nat} (h : n ≠ 0) : noneE n = 0 := if_neg h
theorem room_walk (o c s b r u q t : Nat) (w : World) (hr : Em.rightB o c = true) (hs : s ≤ 1048576) (hb : s = 0 ∧ b = 0 ∨ s = b + 1) (hu : r = 0 ∧ u = 0 ∨ r = u + 1) (hq : q = b / (1 + 13 * c)) (hrr : r = b % (1 + 13 * c)) (ht : t = u / c) :
    Calls Try.prog 22 #[.agg #[.int .i64 (o : Int), .int .i64 (c : Int)], .int .i64 (s : Int)] w fun e w' => e = .returned (.tuple #[.int .i64 ((q * 13 + t : Nat) : Int), .int .i64 (noneE (q * 13 + t))]) ∧ Below w.heap.size w w' := by
  have C := fun w1 => Lib.hid (refuse_any o c s 0 1048576 w1)
  rw [refuse_ok hr (by omega) (by omega)] at C
  obtain ⟨h1, h2, h3, h4⟩ := (Em.right_iff _ _).1 hr
  have hc1 : 1 ≤ c := by omega
  have hc2 : c ≤ 128 := by omega
  have hb2 : b ≤ 1048576 := by omega
  have hql : q ≤ b := by rw [hq]; exact Nat.div_le_self _ _
  have htl : t ≤ u := by rw [ht]; exact Nat.div_le_self _ _
  have hrl : r ≤ 1664 := by have := Nat.mod_lt b (show 0 < 1 + 13 * c by omega); omega
  have hqi : (b : Int) / (1 + 13 * (c : Int)) = (q : Int) := by rw [hq]; simp
  have hri : (b : Int) % (1 + 13 * (c : Int)) = (r : Int) := by rw [hrr]; simp
  have hti : (u : Int) / (c : Int) = (t : Int) := by rw [ht]; simp
  have HB : Hid (Below w.heap.size w (w.alloc (.cells #[.int .i64 (o : Int), .int .i64 (c : Int)] 34))) := (Below.refl _ w).alloc (Nat.le_refl _) _
  have hg0 := cell_alloc2 w (o : Int) (c : Int)
  have HZ : Hid (q * 13 + t = 0 ↔ q * 13 + t = 0) := Iff.rfl
  have hX : ∀ x : Nat, (x : Int) = 0 ↔ x = 0 := fun x => by omega
  have HX := Lib.hid hX
  have HQ := Lib.hid (show (q : Int) * 13 + (t : Int) = ((q * 13 + t : Nat) : Int) by simp)
  have hr0 : b = 0 → r = 0 := fun h => by rw [hrr, h, Nat.zero_mod]
  have ht0 : u = 0 → t = 0 := fun h => by rw [ht, h, Nat.zero_div]
  clear hr h1 h2 h3 h4 hq hrr ht HZ hX HX HQ
  rcases hb with ⟨rfl, rfl⟩ | rfl
  · obtain rfl : q = 0 := by omega
    rcases hu with ⟨rfl, rfl⟩ | rfl
    · obtain rfl : t = 0 := ht0 rfl
      clear htl hr0 ht0 hqi hri hti hs hb2 hql hrl
      have k1 : (0 : Int) / (1 + 13 * (c : Int)) = 0 := Int.zero_ediv _
      have k2 : (0 : Int) % (1 + 13 * (c : Int)) = 0 := Int.zero_emod _
      have k3 : (0 : Int) / (c : Int) = 0 := Int.zero_ediv _
      go_enter Try.func22, Try.ntmps22
      go_wp2_with fail
      refine (C _).out.mono ?_
      rintro e w1 ⟨rfl, hb⟩
      have c0 := (hb.cell (p := ⟨w.heap.size, 0, none⟩) (by simp)).trans hg0.1
      have c1 := (hb.cell (p := ⟨w.heap.size, 1, none⟩) (by simp)).trans hg0.2
      have HB1 := Lib.hid (HB.out.trans (hb.mono HB.out.size))
      clear hb hg0
      go_wp2_with fail
      go_region
      go_wp2_with fail
      go_ret2
      exact ⟨rfl, HB1.out.drew⟩
    · have := hr0 rfl
      omega
  · clear hr0
    rcases hu with ⟨rfl, rfl⟩ | rfl
    · obtain rfl : t = 0 := ht0 rfl
      clear ht0 hti
      have k3 : (0 : Int) / (c : Int) = 0 := Int.zero_ediv _
      have hri' : (b : Int) % (1 + 13 * (c : Int)) = 0 := hri
      clear hri
      by_cases hz : q = 0
      · subst hz
        have hqi' : (b : Int) / (1 + 13 * (c : Int)) = 0 := hqi
        clear hqi
        go_enter Try.func22, Try.ntmps22
        go_wp2_with fail
        refine (C _).out.mono ?_
        rintro e w1 ⟨rfl, hb⟩
        have c0 := (hb.cell (p := ⟨w.heap.size, 0, none⟩) (by simp)).trans hg0.1
        have c1 := (hb.cell (p := ⟨w.heap.size, 1, none⟩) (by simp)).trans hg0.2
        have HB1 := Lib.hid (HB.out.trans (hb.mono HB.out.size))
        clear hb hg0
        go_wp2_with fail
        go_region
        go_wp2_with fail
        go_ret2
        exact ⟨rfl, HB1.out.drew⟩
      · have hz2 : ((q : Int) * 13 == 0) = false := by simp; omega
        have HZ := Lib.hid hz
        clear hz
        go_enter Try.func22, Try.ntmps22
        go_wp2_with fail
        refine (C _).out.mono ?_
        rintro e w1 ⟨rfl, hb⟩
        have c0 := (hb.cell (p := ⟨w.heap.size, 0, none⟩) (by simp)).trans hg0.1
        have c1 := (hb.cell (p := ⟨w.heap.size, 1, none⟩) (by simp)).trans hg0.2
        have HB1 := Lib.hid (HB.out.trans (hb.mono HB.out.size))
        clear hb hg0
        go_wp2_with fail
        go_region
        go_wp2_with fail
        go_ret2
        exact ⟨by rw [noneE_pos (by have := HZ.out; omega)]; simp, HB1.out.drew⟩
    · clear ht0
      have hri' : (b : Int) % (1 + 13 * (c : Int)) = (u : Int) + 1 := by rw [hri]; simp
      clear hri
      by_cases hz : q * 13 + t = 0
      · obtain rfl : q = 0 := by omega
        obtain rfl : t = 0 := by omega
        have hqi' : (b : Int) / (1 + 13 * (c : Int)) = 0 := hqi
        have hti' : (u : Int) / (c : Int) = 0 := hti
        clear hqi hti hz
        go_enter Try.func22, Try.ntmps22
        go_wp2_with fail
        refine (C _).out.mono ?_
        rintro e w1 ⟨rfl, hb⟩
        have c0 := (hb.cell (p := ⟨w.heap.size, 0, none⟩) (by simp)).trans hg0.1
        have c1 := (hb.cell (p := ⟨w.heap.size, 1, none⟩) (by simp)).trans hg0.2
        have HB1 := Lib.hid (HB.out.trans (hb.mono HB.out.size))
        clear hb hg0
        go_wp2_with fail
        go_region
        go_wp2_with fail
        go_ret2
        exact ⟨rfl, HB1.out.drew⟩
      · have hz2 : ((q : Int) * 13 + (t : Int) == 0) = false := by simp; omega
        have HZ := Lib.hid hz
        clear hz
        go_enter Try.func22, Try.ntmps22
        go_wp2_with fail
        refine (C _).out.mono ?_
        rintro e w1 ⟨rfl, hb⟩
        have c0 := (hb.cell (p := ⟨w.heap.size, 0, none⟩) (by simp)).trans hg0.1
        have c1 := (hb.cell (p := ⟨w.heap.size, 1, none⟩) (by simp)).trans hg0.2
        have HB1 := Lib.hid (HB.out.trans (hb.mono HB.out.size))
        clear hb hg0
        go_wp2_with fail
        go_region
        go_wp2_with fail
        go_ret2
        exact ⟨by rw [noneE_pos HZ.out]; simp, HB1.out.drew⟩
theorem room_ok (o c s : Nat) (w : World) (hr : Em.rightB o c = true) (hs : s ≤ 1048576) : Calls Try.prog 22 #[.agg #[.int .i64 (o : Int), .int .i64 (c : Int)], .int .i64 (s : Int)] w fun e w' => e = .returned (.tuple #[.int .i64 (Em.room c s : Nat), .int .i64 (noneE (Em.room c s))]) ∧ Below w.heap.size w w' :=
  room_walk o c s (s - 1) ((s - 1) % (1 + 13 * c)) ((s - 1) % (1 + 13 * c) - 1) ((s - 1) / (1 + 13 * c)) (((s - 1) % (1 + 13 * c) - 1) / c) w hr hs (by omega) (by omega) rfl rfl rfl
end Geo
end Go.Proofs.Ytilfipebmgmmeaa
