/- A table's pages, read back; its clone; and no table. -/
import Derived.Test.YtibemiiflibnaaaTabNil
import Derived.Test.YtibemiiflibnaaaTablePlays
namespace Go.Proofs.Ytibemiiflibnaaa
namespace Tb
open Go.RowKit Dsk Go.Maps
set_option linter.unusedVariables false
set_option maxRecDepth 100000

set_option maxHeartbeats 1000000 in
theorem back_alive (p : Int) (n c n2 c2 : Nat) (a a2 : Option Addr) (w : World) (hn : n ≤ maxLen) (hn2 : n2 ≤ maxLen) (h : (100 < p ∧ p ≤ 1048576) ∨ 100 < n ∨ 100 < n2) :
    Calls Try.prog 5 #[.int .i64 p, .slice a n c, .slice a2 n2 c2] w fun e w' => e = .returned (.bool true) ∧ Below w.heap.size w w' := by
  have AL := Lib.hid alive_yes
  have key : ∀ x y z t : Bool, decide (p > 100) = x → decide (p ≤ 1048576) = y → decide ((n : Int) > 100) = z → decide ((n2 : Int) > 100) = t → ((x = true ∧ y = true) ∨ ((x = false ∨ x = true ∧ y = false) ∧ (z = true ∨ z = false ∧ t = true))) →
      Calls Try.prog 5 #[.int .i64 p, .slice a n c, .slice a2 n2 c2] w fun e w' => e = .returned (.bool true) ∧ Below w.heap.size w w' := by
    clear h
    rintro x y z t d1 d2 d3 d5 (⟨rfl, rfl⟩ | ⟨(rfl | ⟨rfl, rfl⟩), (rfl | ⟨rfl, rfl⟩)⟩)
    all_goals
      have d4 : decide (n > 100) = decide ((n : Int) > 100) := by simp [decide_eq_decide]; omega
      rw [d3] at d4
      have d6 : decide (n2 > 100) = decide ((n2 : Int) > 100) := by simp [decide_eq_decide]; omega
      rw [d5] at d6
      go_enter Try.func5, Try.ntmps5
      go_wp2_with (go_at_call 6; refine (AL.out _).mono ?_; rintro e w1 ⟨rfl, hb⟩; have HB := Lib.hid hb; clear hb)
      go_ret
      exact ⟨rfl, HB.out⟩
  refine key _ _ _ _ rfl rfl rfl rfl ?_
  have side : (100 < n ∨ 100 < n2) → (decide ((n : Int) > 100) = true ∨ decide ((n : Int) > 100) = false ∧ decide ((n2 : Int) > 100) = true) := fun h => by
    by_cases h1 : 100 < n
    · exact .inl (decide_eq_true (by omega))
    · exact .inr ⟨decide_eq_false (by omega), decide_eq_true (by omega)⟩
  rcases h with ⟨h1, h2⟩ | h
  · exact .inl ⟨decide_eq_true h1, decide_eq_true h2⟩
  · by_cases h1 : p > 100
    · by_cases h2 : p ≤ 1048576
      · exact .inl ⟨decide_eq_true h1, decide_eq_true h2⟩
      · exact .inr ⟨.inr ⟨decide_eq_true h1, decide_eq_false h2⟩, side h⟩
    · exact .inr ⟨.inl (decide_eq_false h1), side h⟩
set_option maxHeartbeats 4000000 in
theorem back_live (p : Int) (xs ys : List (Bool × Int)) (c c2 : Nat) (a a2 : Option Addr) (w : World) (wp : (Lit.int .i64 p).wf = true) (hn : xs.length ≤ 100) (hn2 : ys.length ≤ 100) (hp : ¬ (100 < p ∧ p ≤ 1048576)) (h : Acts w a xs) (h2 : Acts w a2 ys) :
    Calls Try.prog 5 #[.int .i64 p, .slice a xs.length c, .slice a2 ys.length c2] w fun e w' => e = .returned (.bool true) ∧ Below w.heap.size w w' := by
  have AL := Lib.hid alive_yes
  have NW := Lib.hid (new_any p w)
  have RN : Hid (∀ (w1 : World) (o : Ob), Tm w1 o (List.replicate (newN p) (-1)) → (∀ k, o.fp k → w.heap.size ≤ k) → Below w.heap.size w w1 → Calls Try.prog 8 #[.int .i64 p] w1 fun e w' => ∃ a c, e = .returned (.slice a (newN p) c) ∧ Run w o.p (.slice a (newN p) c) (newN p) w') := Lib.hid fun w1 o h1 h2 h3 => run_new p wp h1 h2 h3
  have W3 : Hid ((Lit.int .i64 3).wf = true) := Lib.hid (by decide)
  have HA := Lib.hid h
  have HA2 := Lib.hid h2
  obtain ⟨N, hN⟩ : ∃ N, N = newN p := ⟨_, rfl⟩
  rw [← hN] at NW RN
  have key : ∀ x y z t : Bool, decide (p > 100) = x → decide (p ≤ 1048576) = y → decide ((xs.length : Int) > 100) = z → decide ((ys.length : Int) > 100) = t → z = false → t = false → (x = false ∨ (x = true ∧ y = false)) →
      Calls Try.prog 5 #[.int .i64 p, .slice a xs.length c, .slice a2 ys.length c2] w fun e w' => e = .returned (.bool true) ∧ Below w.heap.size w w' := by
    obtain ⟨n, hnn⟩ : ∃ n, n = xs.length := ⟨_, rfl⟩
    have HNN := Lib.hid hnn
    rw [← hnn] at hn ⊢
    obtain ⟨n2, hnn2⟩ : ∃ n, n = ys.length := ⟨_, rfl⟩
    have HNN2 := Lib.hid hnn2
    rw [← hnn2] at hn2 ⊢
    clear h h2 hp wp hnn hnn2 hN
    rintro x y z t d1 d2 d3 d5 rfl rfl hxy
    have d4 : decide (n > 100) = decide ((n : Int) > 100) := by simp [decide_eq_decide]; omega
    rw [d3] at d4
    have d6 : decide (n2 > 100) = decide ((n2 : Int) > 100) := by simp [decide_eq_decide]; omega
    rw [d5] at d6
    rcases hxy with rfl | ⟨rfl, rfl⟩
    all_goals
      go_enter Try.func5, Try.ntmps5
      go_wp2_with (first
        | (go_at_call 7; refine NW.out.mono ?_; rintro e w1 ⟨⟨o, rfl, h1, h2⟩, h3⟩; have R1 := Lib.hid (RN.out w1 o h1 h2 h3); obtain ⟨P, hP⟩ : ∃ P, P = o.p := ⟨_, rfl⟩; rw [← hP] at R1 ⊢; clear h1 h2 h3 hP)
        | (go_at_call 8; refine R1.out.mono ?_; rintro e w2 ⟨va, vc, rfl, h2⟩; have R2 := Lib.hid h2; clear h2 R1))
      go_loopw [9] (fun i wr => ∃ (k : Nat), i = .int .i64 (k : Int) ∧ k ≤ n ∧ Hid (Run w P (.slice va N vc) N wr)) (fun i _ => n - (Lib.intOf i).toNat)
      case atStart => exact ⟨0, rfl, Nat.zero_le _, R2⟩
      case round =>
        obtain ⟨k, rfl, hk, hr⟩ := hrel
        clear R2
        by_cases hlt : k < n
        · have t2 : decide (k < n) = true := by simpa using hlt
          have hw1 : IntKind.i64.wrap ((k : Int) + 1) = ((k + 1 : Nat) : Int) := by rw [IntWalk.i64_in _ (by omega)]; rfl
          obtain ⟨b, off, x, rfl, hx, g0, g1, g2⟩ := HA.out.get hr.out.below (k := k) (by rw [← HNN.out]; exact hlt)
          obtain ⟨d, q⟩ := x
          have A1 := Lib.hid (hr.out.act d q g2)
          clear hx g2
          go_wp2_with (go_at_call 9; refine A1.out.mono ?_; rintro e w3 ⟨rfl, h3⟩; have R4 := Lib.hid h3; clear h3)
          go_roundw
          case rel => exact ⟨k + 1, by go_num, by omega, R4⟩
          case measure => simp [Lib.intOf]; omega
        · have t2 : decide (k < n) = false := by simpa using hlt
          have PG := Lib.hid hr.out.pages
          go_wp2_with (first
            | (go_at_call 13; refine PG.out.mono ?_; rintro e w3 ⟨aa, L, cc, rfl, h3⟩; have B3 := Lib.hid h3; clear h3)
            | (go_at_call 11; refine (B3.out.load _).mono ?_; rintro e w4 ⟨U, rfl, h4⟩; have B4 := Lib.hid h4; clear h4)
            | (go_at_call 14; refine B4.out.clone.mono ?_; rintro e w5 ⟨C, rfl, h5⟩; have B5 := Lib.hid h5; clear h5)
            | (go_at_call 15; refine B5.out.copy.mono ?_; rintro e w6 ⟨na, nc, rfl, h6⟩; have F6 := Lib.hid h6; clear h6))
          clear PG hr B3 B4 B5 hk hlt t2
          go_loopw [16] (fun i wr => ∃ (k : Nat), i = .int .i64 (k : Int) ∧ k ≤ n2 ∧ Hid (Four w P U C (.slice va N vc) (.slice na N nc) wr)) (fun i _ => n2 - (Lib.intOf i).toNat)
          case atStart => exact ⟨0, rfl, Nat.zero_le _, F6⟩
          case round =>
            obtain ⟨k, rfl, hk, hr⟩ := hrel
            clear F6
            by_cases hlt : k < n2
            · have t2 : decide (k < n2) = true := by simpa using hlt
              have hw1 : IntKind.i64.wrap ((k : Int) + 1) = ((k + 1 : Nat) : Int) := by rw [IntWalk.i64_in _ (by omega)]; rfl
              obtain ⟨b, off, x, rfl, hx, g0, g1, g2⟩ := HA2.out.get hr.out.below (k := k) (by rw [← HNN2.out]; exact hlt)
              obtain ⟨d, q⟩ := x
              have A1 := Lib.hid (hr.out.act d q g2)
              clear hx g2
              go_wp2_with (go_at_call 9; refine A1.out.mono ?_; rintro e w3 ⟨rfl, h3⟩; have R4 := Lib.hid h3; clear h3)
              go_roundw
              case rel => exact ⟨k + 1, by go_num, by omega, R4⟩
              case measure => simp [Lib.intOf]; omega
            · have t2 : decide (k < n2) = false := by simpa using hlt
              have S1 := Lib.hid (hr.out.same_u 3 W3.out)
              go_wp2_with (first
                | (go_at_call 10; refine S1.out.mono ?_; rintro e w3 ⟨rfl, h3⟩; have S2 := Lib.hid (h3.same_c 3 W3.out); clear S1 h3)
                | (go_at_call 10; refine S2.out.mono ?_; rintro e w4 ⟨rfl, h4⟩; have S3 := Lib.hid (h4.same_t 3 W3.out); clear S2 h4)
                | (go_at_call 10; refine S3.out.mono ?_; rintro e w5 ⟨rfl, h5⟩; have P5 := Lib.hid (h5.put 3 W3.out); clear S3 h5)
                | (go_at_call 16; refine P5.out.mono ?_; rintro e w6 ⟨x6, y6, rfl, h6⟩; have Q6 := Lib.hid h6; clear P5 h6)
                | (go_at_call 17; refine (find_nil _ _).mono ?_; rintro e w' ⟨rfl, rfl⟩)
                | (go_at_call 16; refine (put_nil _ _).mono ?_; rintro e w' ⟨rfl, rfl⟩)
                | (go_at_call 18; refine (drop_nil _ _).mono ?_; rintro e w' ⟨rfl, rfl⟩)
                | (go_at_call 19; refine (page_nil _ _).mono ?_; rintro e w' ⟨rfl, rfl⟩)
                | (go_at_call 6; refine (AL.out _).mono ?_; rintro e w7 ⟨rfl, h7⟩; have S7 := Lib.hid ((Q6.out.next h7).same 3 W3.out); clear h7)
                | (go_at_call 10; refine S7.out.mono ?_; rintro e w8 ⟨rfl, h8⟩; have B8 := Lib.hid h8; clear S7 h8)
                | (go_at_call 20; refine (len_nil _).mono ?_; rintro e w' ⟨rfl, rfl⟩)
                | (go_at_call 21; refine (left_nil _).mono ?_; rintro e w' ⟨rfl, rfl⟩)
                | (go_at_call 22; refine (all_nil _).mono ?_; rintro e w' ⟨rfl, rfl⟩)
                | (go_at_call 14; refine (clone_null _).mono ?_; rintro e w' ⟨rfl, rfl⟩))
              go_ret
              exact ⟨rfl, B8.out⟩
  refine key _ _ _ _ rfl rfl rfl rfl (by simp; omega) (by simp; omega) ?_
  by_cases h1 : p > 100
  · exact .inr ⟨decide_eq_true h1, decide_eq_false fun h2 => hp ⟨h1, h2⟩⟩
  · exact .inl (decide_eq_false h1)
end Tb
end Go.Proofs.Ytibemiiflibnaaa
