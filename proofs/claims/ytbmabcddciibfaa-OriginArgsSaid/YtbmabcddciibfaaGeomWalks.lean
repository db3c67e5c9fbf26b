/- Contracts of a geometry's small calls: parts, refuse. -/
import Derived.Test.YtbmabcddciibfaaGeomRight
namespace Go.Proofs.Ytbmabcddciibfaa
namespace Geo
open Go.RowKit
set_option linter.unusedVariables false
/-- How many parts there are. -/
theorem parts_any (n s : Nat) (w : World) (hs : 1 ≤ s) (hn : n ≤ 9223372036854775807) (hs2 : s ≤ 9223372036854775807) : Calls Try.prog 46 #[.int .i64 (n : Int), .int .i64 (s : Int)] w fun e w' => e = .returned (.int .i64 (Em.parts n s : Nat)) ∧ w = w' := by
  have h0 : n / s ≤ n := Nat.div_le_self n s
  have hle := Em.parts_le n s
  obtain ⟨q, hqe⟩ : ∃ q, q = n / s := ⟨_, rfl⟩
  have hq : (n : Int) / (s : Int) = (q : Int) := by rw [hqe]; exact (Int.natCast_ediv n s).symm
  have hq1 : q ≤ 9223372036854775807 := by omega
  by_cases h : n % s = 0
  · have e : Em.parts n s = q := by unfold Em.parts; rw [if_pos h, hqe]; rfl
    rw [e]
    have hd : ((n : Int) % (s : Int) != 0) = false := by rw [← Int.natCast_emod]; simp; omega
    clear e hle h0 h hqe
    go_enter Try.func46, Try.ntmps46
    go_wp2_with fail
    go_ret
    exact ⟨rfl, rfl⟩
  · have e : Em.parts n s = q + 1 := by unfold Em.parts; rw [if_neg h, hqe]
    rw [e] at hle ⊢
    have hq2 : q + 1 ≤ 9223372036854775807 := by omega
    have hd : ((n : Int) % (s : Int) != 0) = true := by rw [← Int.natCast_emod]; simp; omega
    clear e hle h0 h hqe
    go_enter Try.func46, Try.ntmps46
    go_wp2_with fail
    go_ret
    exact ⟨rfl, rfl⟩

/-- What can't be. -/
def refuse (o c n lo hi : Int) : Int := if Em.rightB o c = true then (if n < lo ∨ hi < n then 2 else 0) else 1
theorem refuse_any (o c n lo hi : Int) (w : World) : Calls Try.prog 37 #[.agg #[.int .i64 o, .int .i64 c], .int .i64 n, .int .i64 lo, .int .i64 hi] w fun e w' => e = .returned (.int .i64 (refuse o c n lo hi)) ∧ Below w.heap.size w w' := by
  have C := fun w1 => Lib.hid (right_any o c w1)
  obtain ⟨r, hr⟩ : ∃ r, r = Em.rightB o c := ⟨_, rfl⟩
  rw [← hr] at C
  have hB : Below w.heap.size w (w.alloc (.cells #[.int .i64 o, .int .i64 c] 51)) := (Below.refl _ w).alloc (Nat.le_refl _) _
  have HB := Lib.hid hB
  clear hB
  cases r with
  | false =>
    have e : refuse o c n lo hi = 1 := by unfold refuse; rw [← hr]; rfl
    rw [e]
    clear hr e
    go_enter Try.func37, Try.ntmps37
    go_wp2_with fail
    refine (C _).out.mono ?_
    rintro e w1 ⟨rfl, hb⟩
    have HB1 := Lib.hid (HB.out.trans (hb.mono HB.out.size))
    clear hb
    go_wp2_with fail
    go_ret
    exact ⟨rfl, HB1.out⟩
  | true =>
    by_cases h1 : n < lo
    · have e : refuse o c n lo hi = 2 := by unfold refuse; rw [← hr, if_pos rfl, if_pos (.inl h1)]
      rw [e]
      clear hr e
      go_enter Try.func37, Try.ntmps37
      go_wp2_with fail
      refine (C _).out.mono ?_
      rintro e w1 ⟨rfl, hb⟩
      have HB1 := Lib.hid (HB.out.trans (hb.mono HB.out.size))
      clear hb
      go_wp2_with fail
      go_ret
      exact ⟨rfl, HB1.out⟩
    · by_cases h2 : hi < n
      · have e : refuse o c n lo hi = 2 := by unfold refuse; rw [← hr, if_pos rfl, if_pos (.inr h2)]
        rw [e]
        clear hr e
        have hd : decide (n < lo) = false := by simpa using h1
        go_enter Try.func37, Try.ntmps37
        go_wp2_with fail
        refine (C _).out.mono ?_
        rintro e w1 ⟨rfl, hb⟩
        have HB1 := Lib.hid (HB.out.trans (hb.mono HB.out.size))
        clear hb
        go_wp2_with fail
        go_ret
        exact ⟨rfl, HB1.out⟩
      · have e : refuse o c n lo hi = 0 := by unfold refuse; rw [← hr, if_pos rfl, if_neg (by omega)]
        rw [e]
        clear hr e
        have hd : decide (n < lo) = false := by simpa using h1
        have hd2 : decide (hi < n) = false := by simpa using h2
        go_enter Try.func37, Try.ntmps37
        go_wp2_with fail
        refine (C _).out.mono ?_
        rintro e w1 ⟨rfl, hb⟩
        have HB1 := Lib.hid (HB.out.trans (hb.mono HB.out.size))
        clear hb
        go_wp2_with fail
        go_ret
        exact ⟨rfl, HB1.out⟩
end Geo
end Go.Proofs.Ytbmabcddciibfaa