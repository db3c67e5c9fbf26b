/- A table from pages, beside the document's. -/
import Derived.Test.YtibemiiflibnaaaTabAlive
import Derived.Test.YtibemiiflibnaaaTabRLoad
import Derived.Test.YtibemiiflibnaaaTabArgs
namespace Go.Proofs.Ytibemiiflibnaaa
namespace Tb
open Go.RowKit Dsk Go.Maps
set_option linter.unusedVariables false
set_option maxRecDepth 100000

theorem loads_alive (p k : Int) (n c : Nat) (a : Option Addr) (w : World) (hn : n ≤ maxLen) (h : (100 < p ∧ p ≤ 1048576) ∨ 120 < n) :
    Calls Try.prog 4 #[.int .i64 p, .slice a n c, .int .i64 k] w fun e w' => e = .returned (.bool true) ∧ Below w.heap.size w w' := by
  have AL := Lib.hid alive_yes
  have key : ∀ x y z : Bool, decide (p > 100) = x → decide (p ≤ 1048576) = y → decide ((n : Int) > 120) = z → ((x = true ∧ y = true) ∨ (x = false ∧ z = true) ∨ (x = true ∧ y = false ∧ z = true)) →
      Calls Try.prog 4 #[.int .i64 p, .slice a n c, .int .i64 k] w fun e w' => e = .returned (.bool true) ∧ Below w.heap.size w w' := by
    clear h
    rintro x y z d1 d2 d3 (⟨rfl, rfl⟩ | ⟨rfl, rfl⟩ | ⟨rfl, rfl, rfl⟩)
    all_goals
      have d4 : decide (n > 120) = decide ((n : Int) > 120) := by simp [decide_eq_decide]; omega
      rw [d3] at d4
      go_enter Try.func4, Try.ntmps4
      go_wp2_with (go_at_call 6; refine (AL.out _).mono ?_; rintro e w1 ⟨rfl, hb⟩; have HB := Lib.hid hb; clear hb)
      go_ret
      exact ⟨rfl, HB.out⟩
  refine key _ _ _ rfl rfl rfl ?_
  rcases h with ⟨h1, h2⟩ | h
  · exact .inl ⟨decide_eq_true h1, decide_eq_true h2⟩
  · have z : decide ((n : Int) > 120) = true := by simp; omega
    by_cases h1 : p > 100
    · by_cases h2 : p ≤ 1048576
      · exact .inl ⟨decide_eq_true h1, decide_eq_true h2⟩
      · exact .inr (.inr ⟨decide_eq_true h1, decide_eq_false h2, z⟩)
    · exact .inr (.inl ⟨decide_eq_false h1, z⟩)
theorem loads_live (p k : Int) (xs : List Int) (c : Nat) (a : Option Addr) (w : World) (wp : (Lit.int .i64 p).wf = true) (wk : (Lit.int .i64 k).wf = true) (hn : xs.length ≤ 120) (hp : ¬ (100 < p ∧ p ≤ 1048576)) (h : Nums w a c xs) :
    Calls Try.prog 4 #[.int .i64 p, .slice a xs.length c, .int .i64 k] w fun e w' => e = .returned (.bool true) ∧ Below w.heap.size w w' := by
  have AL := Lib.hid alive_yes
  have hp63 := (i64_wf wp).1
  have LD := Lib.hid (load_any (p := p) a c (by omega) h.row h.wf)
  have RL : Hid (∀ W, Below w.heap.size w W → Calls Try.prog 12 #[.int .i64 p, .slice a xs.length c] W (MadeP (loadL p xs) (loadE p xs) W)) := Lib.hid fun W hW => rload_any a c (by omega) hp63 h.cap (h.row.below hW)
  have WK := Lib.hid wk
  have key : ∀ x y z : Bool, decide (p > 100) = x → decide (p ≤ 1048576) = y → decide ((xs.length : Int) > 120) = z → z = false → (x = false ∨ (x = true ∧ y = false)) →
      Calls Try.prog 4 #[.int .i64 p, .slice a xs.length c, .int .i64 k] w fun e w' => e = .returned (.bool true) ∧ Below w.heap.size w w' := by
    obtain ⟨n, hnn⟩ : ∃ n, n = xs.length := ⟨_, rfl⟩
    rw [← hnn] at LD RL ⊢
    rw [← hnn] at hn
    clear h hp wp wk
    rintro x y z d1 d2 d3 rfl hxy
    have d4 : decide (n > 120) = decide ((n : Int) > 120) := by simp [decide_eq_decide]; omega
    rw [d3] at d4
    by_cases hE : loadE p xs = 0
    · have LD2 : Hid (Calls Try.prog 11 #[.int .i64 p, .slice a n c] w fun e w' => ∃ o, e = .returned (.tuple #[.pointer (some ⟨o.p, 0, none⟩), .int .i64 0]) ∧ Tm w' o (xs.take p.toNat) ∧ Below w.heap.size w w') := Lib.hid (LD.out.mono fun e w' hh => by
        obtain ⟨hb, hh | ⟨_, o, he, ht, _⟩⟩ := hh
        · exact (hh.1 hE).elim
        · exact ⟨o, he, ht, hb⟩)
      have RL2 : Hid (∀ W, Below w.heap.size w W → Calls Try.prog 12 #[.int .i64 p, .slice a n c] W fun e w' => ∃ v, e = .returned (.tuple #[v, .int .i64 0]) ∧ Ints w' v (xs.take p.toNat) ∧ Below W.heap.size W w') := Lib.hid fun W hW => (RL.out W hW).mono fun e w' hh => by
        obtain ⟨v, he, hi, _, hb⟩ := hh
        rw [hE] at he
        unfold loadL at hi
        rw [if_pos hE] at hi
        exact ⟨v, he, hi, hb⟩
      clear LD RL hE hp63 hnn
      rcases hxy with rfl | ⟨rfl, rfl⟩
      all_goals
        go_enter Try.func4, Try.ntmps4
        go_wp2_with (first
          | (go_at_call 11; refine LD2.out.mono ?_; rintro e w1 ⟨o, rfl, ht1, hb1⟩; have T1 := Lib.hid ht1; have B1 := Lib.hid hb1; clear ht1 hb1)
          | (go_at_call 12; refine (RL2.out _ B1.out).mono ?_; rintro e w2 ⟨v, rfl, hv2, hb2⟩; have T2 := Lib.hid (T1.out.below hb2); have V2 := Lib.hid hv2; have B2 := Lib.hid (B1.out.trans (hb2.mono B1.out.size)); clear hv2 hb2)
          | (go_at_call 6; refine (AL.out _).mono ?_; rintro e w3 ⟨rfl, hb3⟩; have S3 := Lib.hid (same_yes (T2.out.below hb3) (ints_next V2.out hb3) k WK.out); have B3 := Lib.hid (B2.out.trans (hb3.mono B2.out.size)); clear hb3)
          | (go_at_call 10; refine S3.out.mono ?_; rintro e w4 ⟨rfl, hb4⟩; have B4 := Lib.hid (B3.out.trans (hb4.mono B3.out.size)); clear hb4))
        go_ret
        exact ⟨rfl, B4.out⟩
    · have LD2 : Hid (Calls Try.prog 11 #[.int .i64 p, .slice a n c] w fun e w' => e = .returned (.tuple #[.pointer none, .int .i64 (loadE p xs)]) ∧ Below w.heap.size w w') := Lib.hid (LD.out.mono fun e w' hh => by
        obtain ⟨hb, hh | ⟨h0, _⟩⟩ := hh
        · exact ⟨hh.2, hb⟩
        · exact (hE h0).elim)
      have RL2 : Hid (∀ W, Below w.heap.size w W → Calls Try.prog 12 #[.int .i64 p, .slice a n c] W fun e w' => ∃ v, e = .returned (.tuple #[v, .int .i64 (loadE p xs)]) ∧ Below W.heap.size W w') := Lib.hid fun W hW => (RL.out W hW).mono fun e w' hh => by
        obtain ⟨v, he, hi, _, hb⟩ := hh
        exact ⟨v, he, hb⟩
      obtain ⟨E, hEE⟩ : ∃ E, E = loadE p xs := ⟨_, rfl⟩
      rw [← hEE] at LD2 RL2 hE
      have e0 : (E != 0) = true := by simpa using hE
      have e1 : (E == E) = true := by simp
      clear LD RL hE hp63 hnn hEE
      rcases hxy with rfl | ⟨rfl, rfl⟩
      all_goals
        go_enter Try.func4, Try.ntmps4
        go_wp2_with (first
          | (go_at_call 11; refine LD2.out.mono ?_; rintro e w1 ⟨rfl, hb1⟩; have B1 := Lib.hid hb1; clear hb1)
          | (go_at_call 12; refine (RL2.out _ B1.out).mono ?_; rintro e w2 ⟨v, rfl, hb2⟩; have B2 := Lib.hid (B1.out.trans (hb2.mono B1.out.size)); clear hb2)
          | (go_at_call 6; refine (AL.out _).mono ?_; rintro e w3 ⟨rfl, hb3⟩; have B3 := Lib.hid (B2.out.trans (hb3.mono B2.out.size)); clear hb3))
        go_ret
        exact ⟨rfl, B3.out⟩
  refine key _ _ _ rfl rfl rfl (by simp; omega) ?_
  by_cases h1 : p > 100
  · exact .inr ⟨decide_eq_true h1, decide_eq_false fun h2 => hp ⟨h1, h2⟩⟩
  · exact .inl (decide_eq_false h1)
end Tb
end Go.Proofs.Ytibemiiflibnaaa
