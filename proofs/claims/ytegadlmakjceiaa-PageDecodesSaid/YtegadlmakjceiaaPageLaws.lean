/- The walks of the statements PageEncodes and PageDecodes. -/
import Derived.Test.YtegadlmakjceiaaPageAlive
namespace Go.Proofs.Ytegadlmakjceiaa
open Go.RowKit
set_option linter.unusedVariables false

theorem encodes_any (g : Nat) (ls : List Int) (a : Option Addr) (n c : Nat) (w : World) (hg : g < 4294967296) (hl : ls.length = n) (hn : n ≤ 9223372036854775807) (hr : Row w w.heap.size a n (szs ls)) :
    Calls Try.prog 3 #[.int .u32 (g : Int), .slice a n c] w fun e w' => e = .returned (.bool true) ∧ Below w.heap.size w w' := by
  by_cases h30 : 30 < n
  · have d1 : decide (30 < (n : Int)) = true := by simp; omega
    clear hr hl
    go_enter Try.func3, Try.ntmps3
    go_wp2_with fail
    refine (alive_any _).mono ?_
    rintro e w1 ⟨rfl, hb1⟩
    have HB := Lib.hid hb1
    clear hb1
    go_wp2
    go_ret
    exact ⟨rfl, HB.out⟩
  · have d1 : decide (30 < (n : Int)) = false := by simp; omega
    have C1 := Lib.hid (fun c' w1 (hB : w.heap.size ≤ w1.heap.size) (hr1 : Row w1 w.heap.size a n (szs ls)) => penc_any g ls w.heap.size a n c' w1 hg hl hn hB hr1)
    have C2 := Lib.hid (fun c' w1 (hB : w.heap.size ≤ w1.heap.size) (hr1 : Row w1 w.heap.size a n (szs ls)) => rpenc_any g ls w.heap.size a n c' w1 hg hl hn hB hr1)
    have HR := Lib.hid hr
    obtain ⟨S, hS⟩ : ∃ S, S = Pm.encS g ls := ⟨_, rfl⟩
    obtain ⟨E, hE⟩ : ∃ E, E = Pm.encE ls := ⟨_, rfl⟩
    rw [← hS, ← hE] at C1 C2
    clear hr hl h30 hS hE
    go_enter Try.func3, Try.ntmps3
    go_wp2_with fail
    refine (C1.out _ _ (Nat.le_refl _) HR.out).mono ?_
    rintro e w1 ⟨rfl, hb1⟩
    have HB1 := Lib.hid hb1
    clear hb1
    go_wp2_with fail
    refine (C2.out _ _ HB1.out.size (HR.out.below HB1.out)).mono ?_
    rintro e w2 ⟨rfl, hb2⟩
    have HB2 := Lib.hid (HB1.out.trans (hb2.mono HB1.out.size))
    clear hb2
    go_wp2_with fail
    refine (alive_any _).mono ?_
    rintro e w3 ⟨rfl, hb3⟩
    have HB3 := Lib.hid (HB2.out.trans (hb3.mono HB2.out.size))
    clear hb3
    go_wp2
    go_ret
    exact ⟨rfl, HB3.out⟩

theorem decodes_any (s : List UInt8) (w : World) :
    Calls Try.prog 4 #[.string (Om.B s)] w fun e w' => e = .returned (.bool true) ∧ Below w.heap.size w w' := by
  by_cases h200 : 200 < s.length
  · have d1 : decide (200 < ((Om.B s).size : Int)) = true := by rw [Om.B_size]; simp; omega
    go_enter Try.func4, Try.ntmps4
    go_wp2_with fail
    refine (alive_any _).mono ?_
    rintro e w1 ⟨rfl, hb1⟩
    have HB := Lib.hid hb1
    clear hb1
    go_wp2
    go_ret
    exact ⟨rfl, HB.out⟩
  · have d1 : decide (200 < ((Om.B s).size : Int)) = false := by rw [Om.B_size]; simp; omega
    have C1 := Lib.hid (pdec_any s)
    have C2 := Lib.hid (rpdec_any s)
    unfold DecIs at C1 C2
    have hll : (Pm.decL s).length ≤ 13 := by
      unfold Pm.decL
      split
      · rw [Pm.vals_len]; omega
      · simp
    obtain ⟨E, hE⟩ : ∃ E, E = Pm.decE s := ⟨_, rfl⟩
    obtain ⟨G, hG⟩ : ∃ G, G = Pm.decG s := ⟨_, rfl⟩
    obtain ⟨ms, hms⟩ : ∃ ms, ms = Pm.decL s := ⟨_, rfl⟩
    rw [← hE, ← hG, ← hms] at C1 C2
    rw [← hms] at hll
    clear hE hG hms h200
    go_enter Try.func4, Try.ntmps4
    go_wp2_with fail
    refine (C1.out _).mono ?_
    rintro e w1 ⟨a1, n1, c1, rfl, hn1, hr1, hb1⟩
    have HB1 := Lib.hid hb1
    have HR1 := Lib.hid hr1
    have HN1 := Lib.hid hn1
    clear hb1 hr1 hn1
    go_wp2_with fail
    refine (C2.out _).mono ?_
    rintro e w2 ⟨a2, n2, c2, rfl, hn2, hr2, hb2⟩
    have hnn : n2 = n1 := by rw [hn2, HN1.out]
    subst hnn
    have hnl : n2 ≤ 13 := by omega
    have HB2 := Lib.hid (HB1.out.trans (hb2.mono HB1.out.size))
    have HR2 := Lib.hid hr2
    have HR12 := Lib.hid (HR1.out.below hb2)
    clear hb2 hr2 hn2
    go_wp2_with fail
    refine (psame_yes ms _ _ _ _ n2 _ _ _ (by omega) HR12.out HR2.out).mono ?_
    rintro e w3 ⟨rfl, d, rfl⟩
    have HB3 := Lib.hid (below_drewN HB2.out d)
    go_wp2_with fail
    refine (alive_any _).mono ?_
    rintro e w4 ⟨rfl, hb4⟩
    have HB4 := Lib.hid (HB3.out.trans (hb4.mono HB3.out.size))
    clear hb4
    go_wp2
    go_ret
    exact ⟨rfl, HB4.out⟩
end Go.Proofs.Ytegadlmakjceiaa
