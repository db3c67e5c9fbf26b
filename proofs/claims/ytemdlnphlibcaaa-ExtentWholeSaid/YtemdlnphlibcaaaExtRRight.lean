/- The document's own answer: may extents be used? -/
import Derived.Test.YtemdlnphlibcaaaExtRef
namespace Go.Proofs.Ytemdlnphlibcaaa
namespace Xm
open Go.RowKit
set_option maxRecDepth 100000
set_option linter.unusedVariables false

/-- Extents that were gone through. -/
structure RW (w wr : World) (s l : Int) (p : Option Addr) (u : List (Int × Int)) (k : Nat) : Prop where
  bel : Below w.heap.size w wr
  box : Bx wr w.heap.size s l
  row : Exts wr p u
  ok : ∀ i (h : i < u.length), i < k → inB s l u[i] = true
  ap : ∀ i j (h : j < u.length) (hij : i < j), j < k → Apart (u[i]'(by omega)) u[j]
theorem RW.next {w wr w' : World} {s l : Int} {p : Option Addr} {u : List (Int × Int)} {k : Nat} (h : RW w wr s l p u k) (hb : Below wr.heap.size wr w') : RW w w' s l p u k :=
  ⟨h.bel.trans (hb.mono h.bel.size), h.box.next hb, h.row.next hb, h.ok, h.ap⟩
/-- One more is in the region, and apart from all ahead. -/
theorem RW.more {w wr : World} {s l : Int} {p : Option Addr} {u : List (Int × Int)} {k : Nat} (h : RW w wr s l p u k) (hk : k < u.length) (hi : inB s l u[k] = true) (ha : ∀ i (h : i < k), Apart (u[i]'(by omega)) u[k]) : RW w wr s l p u (k + 1) :=
  ⟨h.bel, h.box, h.row, fun i h1 h2 => by
    by_cases e : i = k
    · subst e; exact hi
    · exact h.ok i h1 (by omega), fun i j h1 h2 h3 => by
    by_cases e : j = k
    · subst e; exact ha i h2
    · exact h.ap i j h1 h2 (by omega)⟩
theorem not_in {s l : Int} {u : List (Int × Int)} {k : Nat} (h : k < u.length) (hi : inB s l u[k] = false) : okB s l u = false := by
  unfold okB
  refine decide_eq_false fun ⟨_, c, _⟩ => ?_
  rw [c _ (List.getElem_mem h)] at hi; cases hi
theorem not_apart {s l : Int} {u : List (Int × Int)} {i j : Nat} (hj : j < u.length) (hij : i < j) (h : ¬ Apart (u[i]'(by omega)) u[j]) : okB s l u = false := by
  unfold okB
  exact decide_eq_false fun ⟨_, _, c⟩ => h (List.pairwise_iff_getElem.1 c i j (by omega) hj hij)
theorem RW.done {w wr : World} {s l : Int} {p : Option Addr} {u : List (Int × Int)} {k : Nat} (h : RW w wr s l p u k) (hr : regB s l = true) (hk : u.length ≤ k) : okB s l u = true :=
  ok_iff.2 ⟨hr, fun x hx => by
    obtain ⟨i, hi, e⟩ := List.getElem_of_mem hx
    rw [← e]; exact h.ok i hi (by omega), List.pairwise_iff_getElem.2 fun i j hi hj hij => h.ap i j hj hij (by omega)⟩
theorem in_false {s l a b : Int} (h : b < 1 ∨ a < s ∨ s + l ≤ a ∨ s + l - a < b) : inB s l (a, b) = false := by
  rw [← Bool.not_eq_true, in_iff]; dsimp only; omega

theorem rright_no0 (s l : Int) (n c : Nat) (p : Option Addr) (w : World) (hr : regB s l = false) : Calls Try.prog 13 #[.agg #[.int .i64 s, .int .i64 l], .slice p n c] w fun e w' => e = .returned (.bool false) ∧ Below w.heap.size w w' := by
  have HB := Lib.hid (below_new w (.cells #[.int .i64 s, .int .i64 l] 23))
  have hx := Bx.new w s l
  have c0 := hx.c0
  have c1 := hx.c1
  have R := Lib.hid (fun w1 => rsmall_any s l w1)
  rw [hr] at R
  clear hx hr
  go_enter Try.func13, Try.ntmps13
  go_wp2_with fail
  refine (R.out _).mono ?_
  rintro e w1 ⟨rfl, hb⟩
  have HB1 := Lib.hid (HB.out.trans (hb.mono HB.out.size))
  clear hb c0 c1
  go_wp2_with fail
  go_ret
  exact ⟨rfl, HB1.out⟩

set_option maxHeartbeats 2000000 in
theorem rright_any (s l : Int) (u : List (Int × Int)) (n : Nat) (hn : n = u.length) (hn63 : n ≤ 4611686018427387904) (p : Option Addr) (c : Nat) (w : World) (hu : Exts w p u) :
    Calls Try.prog 13 #[.agg #[.int .i64 s, .int .i64 l], .slice p n c] w fun e w' => e = .returned (.bool (okB s l u)) ∧ Below w.heap.size w w' := by
  cases hr : regB s l with
  | false => exact (rright_no0 s l n c p w hr).mono fun e w' ⟨h1, h2⟩ => ⟨by rw [h1, show okB s l u = false from decide_eq_false fun c => (by rw [c.1] at hr; cases hr)], h2⟩
  | true =>
    have HB := Lib.hid (below_new w (.cells #[.int .i64 s, .int .i64 l] 23))
    have hx := Bx.new w s l
    have HX := Lib.hid hx
    have c0 := hx.c0
    have c1 := hx.c1
    have R := Lib.hid (fun w1 => rsmall_any s l w1)
    rw [hr] at R
    have HU := Lib.hid (hu.next (below_new w (.cells #[.int .i64 s, .int .i64 l] 23)))
    have HN := Lib.hid hn
    have HR := Lib.hid hr
    clear hx hr hu hn
    go_enter Try.func13, Try.ntmps13
    go_wp2_with fail
    refine (R.out _).mono ?_
    rintro e w1 ⟨rfl, hb⟩
    have HW : Hid (RW w w1 s l p u 0) := ⟨HB.out.trans (hb.mono HB.out.size), HX.out.next hb, HU.out.next hb, fun i _ h => absurd h (by omega), fun i j _ _ h => absurd h (by omega)⟩
    clear hb c0 c1 HB HX HU
    go_wp2_with fail
    go_loopw [6] (fun i wr => ∃ k : Nat, k ≤ n ∧ i = .int .i64 k ∧ Hid (RW w wr s l p u k)) (fun i _ => n - (intOf i).toNat)
    case atStart => exact ⟨0, Nat.zero_le _, rfl, HW⟩
    case round =>
      obtain ⟨k, hk, rfl, hw⟩ := hrel
      by_cases hlt : k < n
      · have hkl : k < u.length := by rw [← HN.out]; exact hlt
        have hne : u ≠ [] := by intro e; rw [e] at hkl; simp at hkl
        obtain ⟨b, off, rfl, hbl, hc⟩ := hw.out.row hne
        obtain ⟨r0, r1⟩ := hc k hkl
        obtain ⟨⟨xa, xb⟩, hx⟩ : ∃ x, x = u[k] := ⟨_, rfl⟩
        rw [← hx] at r0 r1
        dsimp only at r0 r1
        have HX : Hid (∀ h : k < u.length, u[k] = (xa, xb)) := fun _ => hx.symm
        have HK := Lib.hid hkl
        obtain ⟨s1, s2, s3, s4⟩ := reg_iff.1 HR.out
        have hd : decide ((k : Int) < (n : Int)) = true := by simp; omega
        have hd2 : decide (k < n) = true := by simp; omega
        have hd3 : (k : Int) < (n : Int) := by omega
        have hw1 := hw.out.next (below_new wr (.cells #[.int .i64 xa, .int .i64 xb] 23))
        have g0 := hw1.box.c0
        have g1 := hw1.box.c1
        have HW1 := Lib.hid hw1
        have e1 : IntKind.i64.wrap (s + l) = s + l := IntWalk.i64_in _ (by omega)
        clear hx hkl hne hc hbl hw1
        cases d1 : decide (xb < 1) with
        | true =>
          have HO := Lib.hid (not_in (s := s) (l := l) HK.out (by rw [HX.out]; exact in_false (.inl (by simpa using d1))))
          clear s1 s2 s3 s4
          go_wp2_with fail
          go_ret
          exact ⟨by rw [HO.out]; rfl, HW1.out.bel⟩
        | false =>
          cases d2 : decide (xa < s) with
          | true =>
            have HO := Lib.hid (not_in (s := s) (l := l) HK.out (by rw [HX.out]; exact in_false (.inr (.inl (by simpa using d2)))))
            clear s1 s2 s3 s4
            go_wp2_with fail
            go_ret
            exact ⟨by rw [HO.out]; rfl, HW1.out.bel⟩
          | false =>
            cases d3 : decide (s + l ≤ xa) with
            | true =>
              have HO := Lib.hid (not_in (s := s) (l := l) HK.out (by rw [HX.out]; exact in_false (.inr (.inr (.inl (by simpa using d3))))))
              have d4 : decide (xa ≥ s + l) = true := d3
              clear s1 s2 s3 s4
              go_wp2_with fail
              go_ret
              exact ⟨by rw [HO.out]; rfl, HW1.out.bel⟩
            | false =>
              have d4 : decide (xa ≥ s + l) = false := d3
              have e2 : IntKind.i64.wrap (s + l - xa) = s + l - xa := IntWalk.i64_in _ (by simp at d2 d3; omega)
              cases d5 : decide (s + l - xa < xb) with
              | true =>
                have HO := Lib.hid (not_in (s := s) (l := l) HK.out (by rw [HX.out]; exact in_false (.inr (.inr (.inr (by simpa using d5))))))
                have d6 : decide (xb > s + l - xa) = true := d5
                clear s1 s2 s3 s4
                go_wp2_with fail
                go_ret
                exact ⟨by rw [HO.out]; rfl, HW1.out.bel⟩
              | false =>
                have d6 : decide (xb > s + l - xa) = false := d5
                have hin : inB s l (xa, xb) = true := in_iff.2 (by simp at d1 d2 d3 d5; dsimp only; omega)
                have HI := Lib.hid hin
                have BN := Lib.hid (Bx.new wr xa xb)
                have hs5 : s + l ≤ 2097152 := by omega
                clear hin s1 s2 s3 s4
                go_wp2_with fail
                obtain ⟨bx, hbx⟩ : ∃ bx, bx = wr.heap.size := ⟨_, rfl⟩
                rw [← hbx] at BN ⊢
                clear r0 r1 g0 g1 hbx
                go_loopw [8] (fun i wv => ∃ j : Nat, j ≤ k ∧ i = .int .i64 j ∧ Hid (RW w wv s l (some ⟨b, off, none⟩) u k) ∧ Hid (Bx wv bx xa xb) ∧ Hid (∀ i (h : i < u.length), i < j → Apart u[i] (xa, xb))) (fun i _ => k - (intOf i).toNat)
                case atStart => exact ⟨0, Nat.zero_le _, rfl, HW1, BN, fun i _ h => absurd h (by omega)⟩
                case round =>
                  obtain ⟨j, hj, rfl, hv, hbv, hap⟩ := hrel
                  by_cases hjk : j < k
                  · have hjl : j < u.length := by have := HK.out; omega
                    have hne : u ≠ [] := by intro e; rw [e] at hjl; simp at hjl
                    obtain ⟨b2, off2, e2, hbl, hc⟩ := hv.out.row hne
                    injection e2 with e2; injection e2 with e2 e3; subst e2 e3
                    obtain ⟨q0, q1⟩ := hc j hjl
                    obtain ⟨⟨ya, yb⟩, hy⟩ : ∃ x, x = u[j] := ⟨_, rfl⟩
                    have hyi := hv.out.ok j hjl hjk
                    rw [← hy] at q0 q1 hyi
                    dsimp only at q0 q1
                    obtain ⟨i1, i2, i3⟩ := in_iff.1 hyi
                    obtain ⟨x1, x2, x3⟩ := in_iff.1 HI.out
                    obtain ⟨s1, s2, s3, s4⟩ := reg_iff.1 HR.out
                    dsimp only at i1 i2 i3 x1 x2 x3
                    have HY : Hid (∀ h : j < u.length, u[j] = (ya, yb)) := fun _ => hy.symm
                    have HJ := Lib.hid hjl
                    have C := Lib.hid (fun w1 => rapart_any ya yb xa xb w1 (by omega) (by omega) (by omega) (by omega))
                    have hd7 : decide ((j : Int) < (k : Int)) = true := by simp; omega
                    have hd8 : decide (j < k) = true := by simp; omega
                    have hd9 : decide ((j : Int) < (n : Int)) = true := by simp; omega
                    have hd10 : decide (j < n) = true := by simp; omega
                    have hd11 : (j : Int) < (n : Int) := by omega
                    have m0 := hbv.out.c0
                    have m1 := hbv.out.c1
                    have hbb := hbv.out.lt
                    clear hy hyi i1 i2 i3 x1 x2 x3 s1 s2 s3 s4 hjl hne hc
                    cases hap2 : decide (Apart (ya, yb) (xa, xb)) with
                    | true =>
                      rw [hap2] at C
                      go_wp2_with fail
                      go_region_held3 (fun w' => (w'.cell? ⟨b, off + j * 2, none⟩ = some (.int .i64 ya) ∧ w'.cell? ⟨b, off + j * 2 + 1, none⟩ = some (.int .i64 yb)) ∧ w'.cell? ⟨bx, 0, none⟩ = some (.int .i64 xa) ∧ w'.cell? ⟨bx, 1, none⟩ = some (.int .i64 xb))
                        (first | go_keep | (refine ⟨⟨?_, ?_⟩, ?_, ?_⟩ <;> assumption) | (exact ⟨⟨(BX.out.cell (p := ⟨b, off + j * 2, none⟩) hbl).trans q0, (BX.out.cell (p := ⟨b, off + j * 2 + 1, none⟩) hbl).trans q1⟩, (BX.out.cell (p := ⟨bx, 0, none⟩) hbb).trans m0, (BX.out.cell (p := ⟨bx, 1, none⟩) hbb).trans m1⟩))
                        (first | (go_at_call 20; refine (C.out _).mono ?_; rintro e w4 ⟨rfl, hb4⟩; have BX : Hid (Below wr.heap.size wr w4) := (Below.refl _ _).drew.trans hb4; clear hb4))
                      have HV : Hid (RW w w4 s l (some ⟨b, off, none⟩) u k) := hv.out.next BX.out
                      have HBV : Hid (Bx w4 bx xa xb) := hbv.out.next BX.out
                      have HA : Hid (∀ i (h : i < u.length), i < j + 1 → Apart u[i] (xa, xb)) := fun i h hi => by
                        by_cases e : i = j
                        · subst e; rw [HY.out]; simpa using hap2
                        · exact hap.out i h (by omega)
                      clear hap2 q0 q1 m0 m1 hbb hbl BX
                      go_wp2_with fail
                      go_roundw
                      case rel => exact ⟨j + 1, by omega, by go_num, HV, HBV, HA⟩
                      case measure => simp [intOf]; omega
                    | false =>
                      rw [hap2] at C
                      go_wp2_with fail
                      go_region_held3 (fun w' => (w'.cell? ⟨b, off + j * 2, none⟩ = some (.int .i64 ya) ∧ w'.cell? ⟨b, off + j * 2 + 1, none⟩ = some (.int .i64 yb)) ∧ w'.cell? ⟨bx, 0, none⟩ = some (.int .i64 xa) ∧ w'.cell? ⟨bx, 1, none⟩ = some (.int .i64 xb))
                        (first | go_keep | (refine ⟨⟨?_, ?_⟩, ?_, ?_⟩ <;> assumption) | (exact ⟨⟨(BX.out.cell (p := ⟨b, off + j * 2, none⟩) hbl).trans q0, (BX.out.cell (p := ⟨b, off + j * 2 + 1, none⟩) hbl).trans q1⟩, (BX.out.cell (p := ⟨bx, 0, none⟩) hbb).trans m0, (BX.out.cell (p := ⟨bx, 1, none⟩) hbb).trans m1⟩))
                        (first | (go_at_call 20; refine (C.out _).mono ?_; rintro e w4 ⟨rfl, hb4⟩; have BX : Hid (Below wr.heap.size wr w4) := (Below.refl _ _).drew.trans hb4; clear hb4))
                      have HB4 := Lib.hid (hv.out.next BX.out).bel
                      have HO := Lib.hid (not_apart (s := s) (l := l) HK.out hjk (by rw [HX.out, HY.out]; simpa using hap2))
                      clear hap2 q0 q1 m0 m1 hbb hbl BX
                      go_wp2_with fail
                      go_ret
                      exact ⟨by rw [HO.out]; rfl, HB4.out⟩
                  · have hd7 : decide ((j : Int) < (k : Int)) = false := by simp; omega
                    have hd8 : decide (j < k) = false := by simp; omega
                    have HV : Hid (RW w wr s l (some ⟨b, off, none⟩) u (k + 1)) := hv.out.more HK.out (by rw [HX.out]; exact HI.out) (fun i hi => by rw [HX.out]; exact hap.out i (by have := HK.out; omega) (by omega))
                    go_wp2_with fail
                    go_roundw
                    case rel => exact ⟨k + 1, by omega, by go_num, HV⟩
                    case measure => simp [intOf]; omega
      · have hd : decide ((k : Int) < (n : Int)) = false := by simp; omega
        have hd2 : decide (k < n) = false := by simp; omega
        have HO := Lib.hid (hw.out.done HR.out (by have := HN.out; omega))
        go_wp2_with fail
        go_ret
        exact ⟨by rw [HO.out]; rfl, hw.out.bel⟩
end Xm
end Go.Proofs.Ytemdlnphlibcaaa
