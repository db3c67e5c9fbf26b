/- The document's own answer: may extents be used; has one a sector. -/
import Derived.Test.YtemdlnphlibcaaaExtMem
namespace Go.Proofs.Ytemdlnphlibcaaa
namespace Xm
open Go.RowKit
set_option maxRecDepth 100000
set_option linter.unusedVariables false

theorem rsmall_any (s l : Int) (w : World) : Calls Try.prog 19 #[.agg #[.int .i64 s, .int .i64 l]] w fun e w' => e = .returned (.bool (regB s l)) ∧ Below w.heap.size w w' := by
  have HB := Lib.hid (below_new w (.cells #[.int .i64 s, .int .i64 l] 23))
  have hx := Bx.new w s l
  have c0 := hx.c0
  have c1 := hx.c1
  clear hx
  cases h1 : decide (0 ≤ s) <;> cases h2 : decide (s ≤ 1048576) <;> cases h3 : decide (0 ≤ l)
  all_goals
    have HR := Lib.hid (show regB s l = _ by unfold regB; rw [h1, h2, h3])
    have k1 : decide (s ≥ 0) = _ := h1
    have k3 : decide (l ≥ 0) = _ := h3
    simp only [Bool.true_and, Bool.false_and, Bool.and_false, Bool.and_true] at HR
    go_enter Try.func19, Try.ntmps19
    go_wp2_with fail
    go_ret
    exact ⟨by rw [HR.out]; rfl, HB.out⟩
theorem rapart_any (a b c d : Int) (w : World) (h1 : -9223372036854775808 ≤ a + b) (h2 : a + b ≤ 9223372036854775807) (h3 : -9223372036854775808 ≤ c + d) (h4 : c + d ≤ 9223372036854775807) :
    Calls Try.prog 20 #[.agg #[.int .i64 a, .int .i64 b], .agg #[.int .i64 c, .int .i64 d]] w fun e w' => e = .returned (.bool (decide (Apart (a, b) (c, d)))) ∧ Below w.heap.size w w' := by
  obtain ⟨W0, hW0⟩ : ∃ W0, (w.alloc (.cells #[.int .i64 a, .int .i64 b] 23)).alloc (.cells #[.int .i64 c, .int .i64 d] 23) = W0 := ⟨_, rfl⟩
  obtain ⟨hB, hx, hy, hsz⟩ := two_made w a b c d W0 hW0
  have HB := Lib.hid hB
  have a0 := hx.c0
  have a1 := hx.c1
  have b0 := hy.c0
  have b1 := hy.c1
  have e1 : IntKind.i64.wrap (a + b) = a + b := IntWalk.i64_in _ ⟨h1, h2⟩
  have e2 : IntKind.i64.wrap (c + d) = c + d := IntWalk.i64_in _ ⟨h3, h4⟩
  clear hB hx hy hsz h1 h2 h3 h4
  cases d1 : decide (a + b ≤ c) with
  | true =>
    have HR := Lib.hid (show decide (Apart (a, b) (c, d)) = true by simp only [decide_eq_true_eq] at d1 ⊢; exact .inl d1)
    go_enter Try.func20, Try.ntmps20
    go_wp2_with fail
    clear hW0
    go_wp2_with fail
    go_ret
    exact ⟨by rw [HR.out]; rfl, HB.out⟩
  | false =>
    cases d2 : decide (c + d ≤ a) with
    | true =>
      have HR := Lib.hid (show decide (Apart (a, b) (c, d)) = true by simp only [decide_eq_true_eq] at d2 ⊢; exact .inr d2)
      go_enter Try.func20, Try.ntmps20
      go_wp2_with fail
      clear hW0
      go_wp2_with fail
      go_ret
      exact ⟨by rw [HR.out]; rfl, HB.out⟩
    | false =>
      have HR := Lib.hid (show decide (Apart (a, b) (c, d)) = false by simp only [decide_eq_false_iff_not] at d1 d2 ⊢; exact fun h => Or.elim h d1 d2)
      go_enter Try.func20, Try.ntmps20
      go_wp2_with fail
      clear hW0
      go_wp2_with fail
      go_ret
      exact ⟨by rw [HR.out]; rfl, HB.out⟩

/-- Has one of extents a sector? -/
theorem rhas_any (s l : Int) (u : List (Int × Int)) (n : Nat) (hn : n = u.length) (hn63 : n ≤ 9223372036854775807) (p : Option Addr) (c : Nat) (t : Int) (w : World) (hu : Exts w p u) (hr : regB s l = true) (hin : ∀ x ∈ u, inB s l x = true) :
    Calls Try.prog 18 #[.slice p n c, .int .i64 t] w fun e w' => e = .returned (.bool (has u t)) ∧ Below w.heap.size w w' := by
  have HU := Lib.hid hu
  have HN := Lib.hid hn
  have HI := Lib.hid hin
  have HR := Lib.hid hr
  clear hu hn hin hr
  go_enter Try.func18, Try.ntmps18
  go_wp2_with fail
  go_loopw [5] (fun i wr => ∃ k nq : Nat, k ≤ n ∧ i = .int .i64 k ∧ wr = w.drewN nq ∧ Hid (∀ j (h : j < u.length), j < k → ¬ (u[j].1 ≤ t ∧ t < u[j].1 + u[j].2))) (fun i _ => n - (intOf i).toNat)
  case atStart => exact ⟨0, 0, Nat.zero_le _, rfl, rfl, Lib.hid (fun j _ h => absurd h (by omega))⟩
  case round =>
    obtain ⟨k, nq, hk, rfl, rfl, hno⟩ := hrel
    by_cases hlt : k < n
    · have hkl : k < u.length := by rw [← HN.out]; exact hlt
      have hne : u ≠ [] := by intro e; rw [e] at hkl; simp at hkl
      obtain ⟨b, off, rfl, hbl, hc⟩ := HU.out hne
      obtain ⟨r0, r1⟩ := hc k hkl
      obtain ⟨⟨xa, xb⟩, hx⟩ : ∃ x, x = u[k] := ⟨_, rfl⟩
      have hxi := HI.out _ (List.getElem_mem hkl)
      rw [← hx] at r0 r1 hxi
      obtain ⟨i1, i2, i3⟩ := in_iff.1 hxi
      obtain ⟨s1, s2, s3, s4⟩ := reg_iff.1 HR.out
      dsimp only at r0 r1 i1 i2 i3
      have e1 : IntKind.i64.wrap (xa + xb) = xa + xb := IntWalk.i64_in _ (by omega)
      have HX : Hid (∀ h : k < u.length, u[k] = (xa, xb)) := fun _ => hx.symm
      have HK := Lib.hid hkl
      have hd : decide ((k : Int) < (n : Int)) = true := by simp; omega
      have hd2 : decide (k < n) = true := by simp; omega
      have hd3 : (k : Int) < (n : Int) := by omega
      clear hx hkl hne hc hbl hxi i1 i2 i3 s1 s2 s3 s4
      cases d1 : decide (xa ≤ t) with
      | false =>
        have d3 : decide (t ≥ xa) = false := d1
        have HO : Hid (∀ j (h : j < u.length), j < k + 1 → ¬ (u[j].1 ≤ t ∧ t < u[j].1 + u[j].2)) := Lib.hid fun j h hj => by
          by_cases e : j = k
          · subst e; rw [HX.out]; simp at d1; simp; omega
          · exact hno.out j h (by omega)
        go_wp2_with fail
        go_quiet (fail)
        go_wp2_with fail
        go_roundw
        case rel => exact ⟨k + 1, _, by omega, by go_num, rfl, HO⟩
        case measure => simp [intOf]; omega
      | true =>
        have d3 : decide (t ≥ xa) = true := d1
        cases d2 : decide (t < xa + xb) with
        | false =>
          have HO : Hid (∀ j (h : j < u.length), j < k + 1 → ¬ (u[j].1 ≤ t ∧ t < u[j].1 + u[j].2)) := Lib.hid fun j h hj => by
            by_cases e : j = k
            · subst e; rw [HX.out]; simp at d2; simp; omega
            · exact hno.out j h (by omega)
          go_wp2_with fail
          go_quiet (fail)
          go_wp2_with fail
          go_roundw
          case rel => exact ⟨k + 1, _, by omega, by go_num, rfl, HO⟩
          case measure => simp [intOf]; omega
        | true =>
          have HO := Lib.hid (show has u t = true from has_iff.2 ⟨_, List.getElem_mem HK.out, by rw [HX.out]; simp at d1 d2; exact ⟨d1, d2⟩⟩)
          go_wp2_with fail
          go_quiet (fail)
          go_wp2_with fail
          go_ret
          exact ⟨by rw [HO.out]; rfl, below_draws (below_draws (Below.refl _ _) _) _⟩
    · have hd : decide ((k : Int) < (n : Int)) = false := by simp; omega
      have hd2 : decide (k < n) = false := by simp; omega
      have HO := Lib.hid (show has u t = false from has_false.2 fun x hx => by
        obtain ⟨j, h, e⟩ := List.getElem_of_mem hx
        rw [← e]; exact hno.out j h (by have := HN.out; omega))
      go_wp2_with fail
      go_ret
      exact ⟨by rw [HO.out]; rfl, below_draws (Below.refl _ _) nq⟩
end Xm
end Go.Proofs.Ytemdlnphlibcaaa
