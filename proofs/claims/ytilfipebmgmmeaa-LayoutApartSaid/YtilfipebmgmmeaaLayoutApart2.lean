/- LayoutApart, of all arguments. -/
import Derived.Test.YtilfipebmgmmeaaLayoutApart
namespace Go.Proofs.Ytilfipebmgmmeaa
open Go.RowKit
set_option linter.unusedVariables false

theorem page_out (a n g p m i : Int) (r : Nat) (e : Int) (h : Um.okU a n g = true) (hr : RoomIs a n g p m r e) (hr2 : r ≤ 1048576) (hp : e = 0 → 0 ≤ p ∧ p ≤ 1048576) :
    ∃ P F : Int, (∀ w1 : World, Calls Try.prog 13 #[.agg #[.int .i64 a, .int .i64 n, .int .i64 g], .agg #[.int .i64 p, .int .i64 m], .int .i64 i] w1 fun x w' => x = .returned (.tuple #[.int .i64 P, .int .i64 F]) ∧ Below w1.heap.size w1 w') ∧
      (F = 0 → e = 0 ∧ 0 ≤ i ∧ i < (Em.parts r 13 : Nat) ∧ P = p + 1 + i) := by
  by_cases he : e = 0
  · subst he
    by_cases h1 : i < 0
    · exact ⟨0, 2, fun w1 => lpage_low a n g p m i r w1 hr h1, fun h => absurd h (by decide)⟩
    · by_cases h2 : i < (Em.parts r 13 : Nat)
      · exact ⟨p + 1 + i, 0, fun w1 => lpage_ok a n g p m i r w1 h hr (by omega) hr2 h2 (hp rfl).1 (hp rfl).2, fun _ => ⟨rfl, by omega, h2, rfl⟩⟩
      · exact ⟨0, 2, fun w1 => lpage_high a n g p m i r w1 h hr (by omega) hr2 (by omega), fun h => absurd h (by decide)⟩
  · exact ⟨0, e, fun w1 => lpage_err a n g p m i r e w1 hr he, fun h => absurd h he⟩
theorem chunk_out (a n g p m i : Int) (r : Nat) (e : Int) (h : Um.okU a n g = true) (hr : RoomIs a n g p m r e) (hr2 : r ≤ 1048576) (hp : e = 0 → 0 ≤ p ∧ p ≤ 1048576) :
    ∃ A Z G : Int, (∀ w1 : World, Calls Try.prog 14 #[.agg #[.int .i64 a, .int .i64 n, .int .i64 g], .agg #[.int .i64 p, .int .i64 m], .int .i64 i] w1 fun x w' => x = .returned (.tuple #[.agg #[.int .i64 A, .int .i64 Z], .int .i64 G]) ∧ Below w1.heap.size w1 w') ∧
      (G = 0 → e = 0 ∧ 0 ≤ i ∧ i < r ∧ A = p + 1 + (Em.parts r 13 : Nat) + i * g ∧ g = Z) := by
  by_cases he : e = 0
  · subst he
    by_cases h1 : i < 0
    · exact ⟨0, 0, 2, fun w1 => lchunk_low a n g p m i r w1 hr h1, fun h => absurd h (by decide)⟩
    · by_cases h2 : i < r
      · exact ⟨p + 1 + (Em.parts r 13 : Nat) + i * g, g, 0, fun w1 => lchunk_ok a n g p m i r w1 h hr (by omega) hr2 h2 (hp rfl).1 (hp rfl).2, fun _ => ⟨rfl, by omega, h2, rfl, rfl⟩⟩
      · exact ⟨0, 0, 2, fun w1 => lchunk_high a n g p m i r w1 hr (by omega) (by omega), fun h => absurd h (by decide)⟩
  · exact ⟨0, 0, e, fun w1 => lchunk_err a n g p m i r e w1 hr he, fun h => absurd h he⟩
/-- What is known of a store's room. -/
theorem room_out (a n g p m : Int) (h : Um.okU a n g = true) (hp : p ≤ 9223372036854775807) :
    ∃ (r : Nat) (e : Int), RoomIs a n g p m r e ∧ r ≤ 1048576 ∧ (e = 0 → 0 ≤ p ∧ p + m ≤ 1048576 ∧ 1 + ((Em.parts r 13 : Nat) : Int) + r * g ≤ m) := by
  obtain ⟨k1, k2, k3, k4, k5, k6⟩ := Um.okU_small h
  cases hi : inB p m (17 + n) (a - (17 + n)) with
  | false => exact ⟨0, 2, fun w1 => lroom_out a n g p m w1 h hp hi, by omega, fun h => absurd h (by decide)⟩
  | true =>
    obtain ⟨i1, i2, i3⟩ := (inB_iff _ _ _ _).1 hi
    obtain ⟨M, rfl⟩ : ∃ M : Nat, m = (M : Int) := ⟨m.toNat, by omega⟩
    obtain ⟨K, rfl⟩ : ∃ K : Nat, g = (K : Int) := ⟨g.toNat, by omega⟩
    have hf := (Em.room_fits (c := K) (s := M) (by omega)).1
    refine ⟨Em.room K M, Geo.noneE (Em.room K M), fun w1 => ?_, ?_, ?_⟩
    · have := lroom_ok a n K p M w1 h hp hi
      rw [Int.toNat_natCast] at this
      exact this
    · rcases Nat.eq_zero_or_pos (Em.room K M) with h0 | h0
      · omega
      · have := hf h0
        unfold Em.size at this
        have h1 : Em.room K M * 1 ≤ Em.room K M * K := Nat.mul_le_mul_left _ (by omega)
        omega
    · intro h0
      have h1 : Em.room K M ≠ 0 := by
        intro hz
        unfold Geo.noneE at h0
        rw [if_pos hz] at h0
        exact absurd h0 (by decide)
      have := hf (by omega)
      unfold Em.size at this
      refine ⟨by omega, by omega, ?_⟩
      have h2 : ((1 + Em.parts (Em.room K M) 13 + Em.room K M * K : Nat) : Int) ≤ (M : Int) := by omega
      simpa using h2
theorem chunk_math {i r g : Int} (h0 : 0 ≤ i) (h1 : i < r) (hg : 0 ≤ g) : 0 ≤ i * g ∧ i * g + g ≤ r * g := by
  have h2 : (i + 1) * g ≤ r * g := Int.mul_le_mul_of_nonneg_right (by omega) hg
  rw [Int.add_mul, Int.one_mul] at h2
  exact ⟨Int.mul_nonneg h0 hg, h2⟩
theorem apart_any (a n g p m i k : Int) (w : World) (hp : p ≤ 9223372036854775807) :
    Calls Try.prog 4 #[.agg #[.int .i64 a, .int .i64 n, .int .i64 g], .agg #[.int .i64 p, .int .i64 m], .agg #[.int .i64 i, .int .i64 k]] w fun e w' => e = .returned (.bool true) ∧ Below w.heap.size w w' := by
  cases h : Um.okU a n g with
  | false => exact apart_wrong a n g p m i k w h
  | true =>
    by_cases hm : 4000 < m
    · exact apart_great a n g p m i k w h hm
    · obtain ⟨k1, k2, k3, k4, k5, k6⟩ := Um.okU_small h
      obtain ⟨r, e, hr, hr2, hroom⟩ := room_out a n g p m h hp
      have hp2 : e = 0 → 0 ≤ p ∧ p ≤ 1048576 := fun he => by
        obtain ⟨h1, h2, h3⟩ := hroom he
        have : 0 ≤ (r : Int) * g := Int.mul_nonneg (by omega) (by omega)
        omega
      obtain ⟨P, F, CP, fF⟩ := page_out a n g p m i r e h hr hr2 hp2
      obtain ⟨A, Z, G, CA, fG⟩ := chunk_out a n g p m i r e h hr hr2 hp2
      obtain ⟨B, Y, H, CB, fH⟩ := chunk_out a n g p m k r e h hr hr2 hp2
      have hge : 0 ≤ (r : Int) * g := Int.mul_nonneg (by omega) (by omega)
      refine apart_walk a n g p m i k P F A Z G B Y H w h (by omega) (Lib.hid CP) (Lib.hid CA) (Lib.hid CB) ?_ ?_ ?_ ?_ ?_
      · intro h0
        obtain ⟨he, q0, q1, rfl⟩ := fF h0
        obtain ⟨h1, h2, h3⟩ := hroom he
        omega
      · intro h0
        obtain ⟨he, q0, q1, rfl, rfl⟩ := fG h0
        obtain ⟨h1, h2, h3⟩ := hroom he
        obtain ⟨m1, m2⟩ := chunk_math q0 q1 (by omega : 0 ≤ g)
        omega
      · intro h0 h9
        obtain ⟨he, q0, q1, rfl⟩ := fF h0
        obtain ⟨_, s0, s1, rfl, rfl⟩ := fG h9
        obtain ⟨h1, h2, h3⟩ := hroom he
        obtain ⟨m1, m2⟩ := chunk_math s0 s1 (by omega : 0 ≤ g)
        exact Lib.hid fun w1 => apart_yes _ _ _ _ w1 (by omega) (by omega) (by omega) (by omega) (by omega)
      · intro h0 h9
        obtain ⟨he, q0, q1, rfl⟩ := fF h0
        obtain ⟨_, s0, s1, rfl, rfl⟩ := fH h9
        obtain ⟨h1, h2, h3⟩ := hroom he
        obtain ⟨m1, m2⟩ := chunk_math s0 s1 (by omega : 0 ≤ g)
        exact Lib.hid fun w1 => apart_yes _ _ _ _ w1 (by omega) (by omega) (by omega) (by omega) (by omega)
      · intro h0 h9 hne
        obtain ⟨he, q0, q1, rfl, rfl⟩ := fG h0
        obtain ⟨_, s0, s1, rfl, rfl⟩ := fH h9
        obtain ⟨h1, h2, h3⟩ := hroom he
        obtain ⟨m1, m2⟩ := chunk_math q0 q1 (by omega : 0 ≤ g)
        obtain ⟨n1, n2⟩ := chunk_math s0 s1 (by omega : 0 ≤ g)
        have hc : i * g + g ≤ k * g ∨ k * g + g ≤ i * g := by
          rcases Int.lt_or_gt_of_ne hne with hl | hl
          · exact .inl (chunk_math q0 hl (by omega)).2
          · exact .inr (chunk_math s0 hl (by omega)).2
        exact Lib.hid fun w1 => apart_yes _ _ _ _ w1 (by omega) (by omega) (by omega) (by omega) (by omega)
end Go.Proofs.Ytilfipebmgmmeaa
