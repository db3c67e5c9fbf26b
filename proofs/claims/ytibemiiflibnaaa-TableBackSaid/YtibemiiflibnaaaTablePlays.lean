/- A table that plays acts, beside the document's. -/
import Derived.Test.YtibemiiflibnaaaTabRun
namespace Go.Proofs.Ytibemiiflibnaaa
namespace Tb
open Go.RowKit Dsk Go.Maps
set_option linter.unusedVariables false
set_option maxRecDepth 100000

/-- An act that lies, seen through a world that came later. -/
theorem Acts.get {w wr : World} {a : Option Addr} {xs : List (Bool × Int)} (h : Acts w a xs) (hb : Below w.heap.size w wr) {k : Nat} (hk : k < xs.length) :
    ∃ b off x, a = some ⟨b, off, none⟩ ∧ xs[k]? = some x ∧ wr.cell? ⟨b, off + k * 2, none⟩ = some (.bool x.1) ∧ wr.cell? ⟨b, off + k * 2 + 1, none⟩ = some (.int .i64 x.2) ∧ (Lit.int .i64 x.2).wf = true := by
  obtain ⟨b, off, e, hlt, hc⟩ := h (by rintro rfl; simp at hk)
  have hx : xs[k]? = some xs[k] := List.getElem?_eq_getElem hk
  obtain ⟨c0, c1, c2⟩ := hc k _ hx
  exact ⟨b, off, _, e, hx, (hb.cell (p := ⟨b, off + k * 2, none⟩) hlt).trans c0, (hb.cell (p := ⟨b, off + k * 2 + 1, none⟩) hlt).trans c1, c2⟩
theorem plays_alive (p k : Int) (n c : Nat) (a : Option Addr) (w : World) (hn : n ≤ maxLen) (h : (100 < p ∧ p ≤ 1048576) ∨ 100 < n) :
    Calls Try.prog 3 #[.int .i64 p, .slice a n c, .int .i64 k] w fun e w' => e = .returned (.bool true) ∧ Below w.heap.size w w' := by
  have AL := Lib.hid alive_yes
  have key : ∀ x y z : Bool, decide (p > 100) = x → decide (p ≤ 1048576) = y → decide ((n : Int) > 100) = z → ((x = true ∧ y = true) ∨ (x = false ∧ z = true) ∨ (x = true ∧ y = false ∧ z = true)) →
      Calls Try.prog 3 #[.int .i64 p, .slice a n c, .int .i64 k] w fun e w' => e = .returned (.bool true) ∧ Below w.heap.size w w' := by
    clear h
    rintro x y z d1 d2 d3 (⟨rfl, rfl⟩ | ⟨rfl, rfl⟩ | ⟨rfl, rfl, rfl⟩)
    all_goals
      have d4 : decide (n > 100) = decide ((n : Int) > 100) := by simp [decide_eq_decide]; omega
      rw [d3] at d4
      go_enter Try.func3, Try.ntmps3
      go_wp2_with (go_at_call 6; refine (AL.out _).mono ?_; rintro e w1 ⟨rfl, hb⟩; have HB := Lib.hid hb; clear hb)
      go_ret
      exact ⟨rfl, HB.out⟩
  refine key _ _ _ rfl rfl rfl ?_
  rcases h with ⟨h1, h2⟩ | h
  · exact .inl ⟨decide_eq_true h1, decide_eq_true h2⟩
  · have z : decide ((n : Int) > 100) = true := by simp; omega
    by_cases h1 : p > 100
    · by_cases h2 : p ≤ 1048576
      · exact .inl ⟨decide_eq_true h1, decide_eq_true h2⟩
      · exact .inr (.inr ⟨decide_eq_true h1, decide_eq_false h2, z⟩)
    · exact .inr (.inl ⟨decide_eq_false h1, z⟩)
set_option maxHeartbeats 1000000 in
theorem plays_live (p look : Int) (xs : List (Bool × Int)) (c : Nat) (a : Option Addr) (w : World) (wp : (Lit.int .i64 p).wf = true) (wk : (Lit.int .i64 look).wf = true) (hn : xs.length ≤ 100) (hp : ¬ (100 < p ∧ p ≤ 1048576)) (h : Acts w a xs) :
    Calls Try.prog 3 #[.int .i64 p, .slice a xs.length c, .int .i64 look] w fun e w' => e = .returned (.bool true) ∧ Below w.heap.size w w' := by
  have AL := Lib.hid alive_yes
  have NW := Lib.hid (new_any p w)
  have RN : Hid (∀ (w1 : World) (o : Ob), Tm w1 o (List.replicate (newN p) (-1)) → (∀ k, o.fp k → w.heap.size ≤ k) → Below w.heap.size w w1 → Calls Try.prog 8 #[.int .i64 p] w1 fun e w' => ∃ a c, e = .returned (.slice a (newN p) c) ∧ Run w o.p (.slice a (newN p) c) (newN p) w') := Lib.hid fun w1 o h1 h2 h3 => run_new p wp h1 h2 h3
  have WK := Lib.hid wk
  have HA := Lib.hid h
  obtain ⟨N, hN⟩ : ∃ N, N = newN p := ⟨_, rfl⟩
  rw [← hN] at NW RN
  have key : ∀ x y z : Bool, decide (p > 100) = x → decide (p ≤ 1048576) = y → decide ((xs.length : Int) > 100) = z → z = false → (x = false ∨ (x = true ∧ y = false)) →
      Calls Try.prog 3 #[.int .i64 p, .slice a xs.length c, .int .i64 look] w fun e w' => e = .returned (.bool true) ∧ Below w.heap.size w w' := by
    obtain ⟨n, hnn⟩ : ∃ n, n = xs.length := ⟨_, rfl⟩
    have HNN := Lib.hid hnn
    rw [← hnn] at hn ⊢
    clear h hp wp wk hnn hN
    rintro x y z d1 d2 d3 rfl hxy
    have d4 : decide (n > 100) = decide ((n : Int) > 100) := by simp [decide_eq_decide]; omega
    rw [d3] at d4
    rcases hxy with rfl | ⟨rfl, rfl⟩
    all_goals
      go_enter Try.func3, Try.ntmps3
      go_wp2_with (first
        | (go_at_call 7; refine NW.out.mono ?_; rintro e w1 ⟨⟨o, rfl, h1, h2⟩, h3⟩; have R1 := Lib.hid (RN.out w1 o h1 h2 h3); obtain ⟨P, hP⟩ : ∃ P, P = o.p := ⟨_, rfl⟩; rw [← hP] at R1 ⊢; clear h1 h2 h3 hP)
        | (go_at_call 8; refine R1.out.mono ?_; rintro e w2 ⟨va, vc, rfl, h2⟩; have R2 := Lib.hid h2; clear h2 R1))
      go_loopw [9] (fun i wr => ∃ (k : Nat), i = .int .i64 (k : Int) ∧ k ≤ n ∧ Hid (Run w P (.slice va N vc) N wr)) (fun i _ => n - (Lib.intOf i).toNat)
      case atStart => exact ⟨0, rfl, Nat.zero_le _, R2⟩
      case round =>
        obtain ⟨k, rfl, hk, hr⟩ := hrel
        clear R2
        by_cases hlt : k < n
        · have t2 : decide (k < n) = true := by simpa using hlt
          have hw1 : IntKind.i64.wrap ((k : Int) + 1) = ((k + 1 : Nat) : Int) := by rw [IntWalk.i64_in _ (by omega)]; rfl
          obtain ⟨b, off, x, rfl, hx, g0, g1, g2⟩ := HA.out.get hr.out.below (k := k) (by rw [← HNN.out]; exact hlt)
          obtain ⟨d, q⟩ := x
          have A1 := Lib.hid (hr.out.act d q g2)
          clear hx g2
          go_wp2_with (first
            | (go_at_call 9; refine A1.out.mono ?_; rintro e w3 ⟨rfl, h3⟩; have S3 := Lib.hid (h3.same look WK.out); clear h3)
            | (go_at_call 10; refine S3.out.mono ?_; rintro e w4 ⟨rfl, h4⟩; have R4 := Lib.hid h4; clear h4))
          go_roundw
          case rel => exact ⟨k + 1, by go_num, by omega, R4⟩
          case measure => simp [Lib.intOf]; omega
        · have t2 : decide (k < n) = false := by simpa using hlt
          go_wp2_with (first
            | (go_at_call 6; refine (AL.out _).mono ?_; rintro e w3 ⟨rfl, h3⟩; have R3 := Lib.hid (hr.out.next h3); have S3 := Lib.hid (R3.out.same look WK.out); clear h3)
            | (go_at_call 10; refine S3.out.mono ?_; rintro e w4 ⟨rfl, h4⟩; have R4 := Lib.hid h4; clear h4))
          go_ret
          exact ⟨rfl, R4.out.below⟩
  refine key _ _ _ rfl rfl rfl (by simp; omega) ?_
  by_cases h1 : p > 100
  · exact .inr ⟨decide_eq_true h1, decide_eq_false fun h2 => hp ⟨h1, h2⟩⟩
  · exact .inl (decide_eq_false h1)
end Tb
end Go.Proofs.Ytibemiiflibnaaa
