/- Contracts of origin's has, full, Read, Write and Flush. -/
import Derived.Test.YtbmabcddciibfaaOrgMem
import Derived.Test.YtbmabcddciibfaaDiskWrite
import Derived.Test.YtbmabcddciibfaaDiskFlush
import Derived.Laws.Rows
import Derived.Laws.OwnMore
import Derived.WalkLawsBesides
import Derived.WalkSpells
import Derived.Deep.RegionHeld3
import Derived.Deep.QuietTactic
import Derived.BigQuiet
import Derived.Outline
import Derived.Deep.DeepCutAuto
namespace Go.Proofs.Ytbmabcddciibfaa
namespace Og
open Go.RowKit
set_option maxRecDepth 100000
set_option linter.unusedVariables false
theorem drewB {w w1 : World} (h : Below w.drew.heap.size w.drew w1) : Below w.heap.size w w1 := ((Below.refl _ w).drew).trans h
theorem ohas_any {w : World} {o : Bo} {n g : Nat} {st : Dm.St} (h : Gk w o n g st) (a k : Int) (ha : a ≤ 9223372036854775807) : Calls Try.prog 23 #[.pointer (some ⟨o.q, 0, none⟩), .int .i64 a, .int .i64 k] w fun e w' => e = .returned (.bool (hasB n a k)) ∧ w = w' := by
  obtain ⟨n1, n2, g1, g2⟩ := h.small
  obtain ⟨c0, c1, c2, c3, c4⟩ := h.reads
  have hiff := hasB_iff (n := n) (a := a) (k := k)
  by_cases h1 : 0 ≤ a
  · by_cases h2 : 0 ≤ k
    · have hr : hasB n a k = decide (k ≤ (n : Int) - a) := by rw [Bool.eq_iff_iff, hiff]; simp [h1, h2]
      have HR := Lib.hid hr
      have hw : IntKind.i64.wrap ((n : Int) - a) = (n : Int) - a := IntWalk.i64_in _ (by omega)
      clear hr hiff h
      go_enter Try.func23, Try.ntmps23
      go_wp2_with fail
      all_goals (go_ret; exact ⟨by rw [HR.out]; simp_all, rfl⟩)
    · have hr : hasB n a k = false := by rw [Bool.eq_false_iff]; intro c; exact h2 (hiff.1 c).2.1
      have HR := Lib.hid hr
      clear hr hiff h
      have hd : decide (0 ≤ k) = false := by simpa using h2
      go_enter Try.func23, Try.ntmps23
      go_wp2_with fail
      go_ret
      exact ⟨by rw [HR.out]; rfl, rfl⟩
  · have hr : hasB n a k = false := by rw [Bool.eq_false_iff]; intro c; exact h1 (hiff.1 c).1
    have HR := Lib.hid hr
    clear hr hiff h
    have hd : decide (0 ≤ a) = false := by simpa using h1
    go_enter Try.func23, Try.ntmps23
    go_wp2_with fail
    go_ret
    exact ⟨by rw [HR.out]; rfl, rfl⟩
theorem ofull_any {w : World} {o : Bo} {n g : Nat} {st : Dm.St} (h : Gk w o n g st) : Calls Try.prog 27 #[.pointer (some ⟨o.q, 0, none⟩)] w fun e w' => e = .returned (.int .i64 ((64 * g : Nat) : Int)) ∧ w = w' := by
  obtain ⟨n1, n2, g1, g2⟩ := h.small
  obtain ⟨c0, c1, c2, c3, c4⟩ := h.reads
  have hw : IntKind.i64.wrap ((g : Int) * 64) = ((64 * g : Nat) : Int) := by rw [IntWalk.i64_in _ (by omega)]; omega
  clear h
  go_enter Try.func27, Try.ntmps27
  go_wp2_with fail
  go_ret
  exact ⟨rfl, rfl⟩
theorem oread_any {w : World} {o : Bo} {n g : Nat} {st : Dm.St} (h : Gk w o n g st) (a k : Int) (ha : a ≤ 9223372036854775807) (hP : st.P.length ≤ 1099511627776) :
    Calls Try.prog 9 #[.pointer (some ⟨o.q, 0, none⟩), .int .i64 a, .int .i64 k] w fun e w' => e = .returned (.tuple #[.string (Om.B (rS n st a k)), .int .i64 (rE n st a k)]) ∧ Below w.heap.size w w' := by
  obtain ⟨n1, n2, g1, g2⟩ := h.small
  have HS := Lib.hid (ohas_any h a k ha)
  cases hb : hasB n a k with
  | false =>
    have e1 : rS n st a k = [] := by unfold rS; rw [hb, if_neg (by decide)]
    have e2 : rE n st a k = 2 := by unfold rE; rw [hb, if_neg (by decide)]
    rw [e1, e2]
    rw [hb] at HS
    clear h hb e1 e2
    go_enter Try.func9, Try.ntmps9
    go_wp2_with fail
    refine HS.out.mono ?_
    rintro e w' ⟨rfl, rfl⟩
    go_wp2_with fail
    go_ret2
    exact ⟨rfl, Below.refl _ _⟩
  | true =>
    have e1 : rS n st a k = Dm.readS st (17 + a) k := by unfold rS; rw [hb, if_pos rfl]
    have e2 : rE n st a k = Dm.readE st (17 + a) k := by unfold rE; rw [hb, if_pos rfl]
    rw [e1, e2]
    rw [hb] at HS
    obtain ⟨a0, k0, hk⟩ := hasB_iff.1 hb
    have hw : IntKind.i64.wrap (17 + a) = 17 + a := IntWalk.i64_in _ (by omega)
    obtain ⟨c0, c1, c2, c3, c4⟩ := h.reads
    have KEEP : Hid (∀ W, Below w.heap.size w W → W.cell? ⟨o.q, 0, none⟩ = some (.pointer (some ⟨o.d.p, 0, none⟩)) ∧ W.cell? ⟨o.q, 1, none⟩ = some (.int .i64 17)) := Lib.hid fun W hW => by
      obtain ⟨c0, c1, -, -, -⟩ := (h.below hW).reads
      exact ⟨c0, c1⟩
    have RD := Lib.hid (fun w1 (hb : Below w.heap.size w w1) => Dsk.read_any (h.dk.below hb) (17 + a) k (by omega) hP)
    obtain ⟨X, hX⟩ : ∃ X, X = Dm.readS st (17 + a) k := ⟨_, rfl⟩
    obtain ⟨E, hE⟩ : ∃ E, E = Dm.readE st (17 + a) k := ⟨_, rfl⟩
    rw [← hX, ← hE] at RD ⊢
    clear h hb e1 e2 hX hE a0 k0 hk c2 c3 c4 n1 n2 g1 g2
    go_enter Try.func9, Try.ntmps9
    go_wp2_with fail
    refine HS.out.mono ?_
    rintro e w' ⟨rfl, rfl⟩
    go_upto_region 5 with fail
    go_region_held3 (fun w' => w'.cell? ⟨o.q, 0, none⟩ = some (.pointer (some ⟨o.d.p, 0, none⟩)) ∧ w'.cell? ⟨o.q, 1, none⟩ = some (.int .i64 17))
      (first | (refine ⟨?_, ?_⟩ <;> assumption) | go_keep)
      (first
        | (go_at_call 24; refine (RD.out _ (Below.refl _ _).drew).mono ?_; rintro e w2 ⟨rfl, hb2⟩; have FB := Lib.hid (drewB hb2); obtain ⟨z0, z1⟩ := KEEP.out _ FB.out; clear hb2))
    go_wp2_with fail
    go_ret2
    exact ⟨rfl, FB.out⟩
theorem write_len (st : Dm.St) (hok : Dm.Ok st) (a : Int) (d : List UInt8) : (Dm.write st a d).1.S.length = st.S.length := by rw [(Dm.write_ok hok a d).2.1]
theorem owrite_any {w : World} {o : Bo} {n g : Nat} {st : Dm.St} (h : Gk w o n g st) (a : Int) (d : List UInt8) (ha : a ≤ 9223372036854775807) (hd : d.length ≤ 140737488355328) (hP : st.P.length ≤ 549755813888) :
    Calls Try.prog 11 #[.pointer (some ⟨o.q, 0, none⟩), .int .i64 a, .string (Om.B d)] w fun e w' => e = .returned (.int .i64 (wE n st a d)) ∧ Went o n g (wS n st a d) w w' := by
  obtain ⟨n1, n2, g1, g2⟩ := h.small
  obtain ⟨L, hL⟩ : ∃ L, L = d.length := ⟨_, rfl⟩
  obtain ⟨q, hq⟩ : ∃ q, q = L / 64 := ⟨_, rfl⟩
  have hq2 : (L : Int) / 64 = (q : Int) := by omega
  have hq3 : ((d.length / 64 : Nat) : Int) = (q : Int) := by omega
  have hqw : wrap64 (q : Int) = (q : Int) := by unfold wrap64; omega
  have HS := Lib.hid (ohas_any h a (q : Int) ha)
  obtain ⟨D, hD⟩ : ∃ D, D = Om.B d := ⟨_, rfl⟩
  have hDs : D.size = L := by rw [hD, hL]; exact Om.B_size d
  by_cases hm : d.length % 64 = 0
  · have m1 : ((L : Int) % 64 != 0) = false := by simp; omega
    cases hb : hasB n a (q : Int) with
    | false =>
      have e1 : wE n st a d = 2 := by unfold wE; rw [if_pos hm, hq3, hb, if_neg (by decide)]
      have e2 : wS n st a d = st := by unfold wS; rw [if_pos hm, hq3, hb, if_neg (by decide)]
      rw [e1, e2]
      rw [hb] at HS
      have FIN := Lib.hid (Went.of_below h (Below.refl _ _))
      rw [← hD]
      clear h hb e1 e2 hD hL hq hq3 hm
      go_enter Try.func11, Try.ntmps11
      go_wp2_with fail
      refine HS.out.mono ?_
      rintro e w' ⟨rfl, rfl⟩
      go_wp2_with fail
      go_ret
      exact ⟨rfl, FIN.out⟩
    | true =>
      have e1 : wE n st a d = (Dm.write st (17 + a) d).2 := by unfold wE; rw [if_pos hm, hq3, hb, if_pos rfl]
      have e2 : wS n st a d = (Dm.write st (17 + a) d).1 := by unfold wS; rw [if_pos hm, hq3, hb, if_pos rfl]
      rw [e1, e2]
      rw [hb] at HS
      obtain ⟨a0, k0, hk⟩ := hasB_iff.1 hb
      have hw : IntKind.i64.wrap (17 + a) = 17 + a := IntWalk.i64_in _ (by omega)
      obtain ⟨c0, c1, c2, c3, c4⟩ := h.reads
      have WR : Hid (∀ w1, Below w.heap.size w w1 → Calls Try.prog 28 #[.pointer (some ⟨o.d.p, 0, none⟩), .int .i64 (17 + a), .string (Om.B d)] w1 fun e w' => e = .returned (.int .i64 (Dm.write st (17 + a) d).2) ∧ Went o n g (Dm.write st (17 + a) d).1 w w' ∧ w'.cell? ⟨o.q, 0, none⟩ = some (.pointer (some ⟨o.d.p, 0, none⟩)) ∧ w'.cell? ⟨o.q, 1, none⟩ = some (.int .i64 17)) := Lib.hid fun w1 hb1 => by
        refine (Dsk.write_any (h.dk.below hb1) (17 + a) d (by omega) hd hP).mono ?_
        rintro e w' ⟨he, d', hd', hs'⟩
        obtain ⟨h1, h2⟩ := (h.below hb1).disk hd' hs' (write_len st h.dk.ok _ _)
        obtain ⟨z0, z1, -, -, -⟩ := h1.reads
        rw [hs'.p] at z0
        exact ⟨he, Went.below hb1 ⟨_, h1, h2⟩, z0, z1⟩
      obtain ⟨E, hE⟩ : ∃ E, E = (Dm.write st (17 + a) d).2 := ⟨_, rfl⟩
      rw [← hE, ← hD] at WR
      rw [← hE, ← hD]
      clear h hb e1 e2 hE a0 k0 hk c2 c3 c4 n1 n2 g1 g2 hq hq3 hm hD hL
      go_enter Try.func11, Try.ntmps11
      go_wp2_with fail
      refine HS.out.mono ?_
      rintro e w' ⟨rfl, rfl⟩
      go_upto_region 5 with fail
      go_region_held3 (fun w' => w'.cell? ⟨o.q, 0, none⟩ = some (.pointer (some ⟨o.d.p, 0, none⟩)) ∧ w'.cell? ⟨o.q, 1, none⟩ = some (.int .i64 17))
        (first | (refine ⟨?_, ?_⟩ <;> assumption) | go_keep)
        (first
          | (go_at_call 28; refine (WR.out _ (Below.refl _ _).drew).mono ?_; rintro e w2 ⟨rfl, hb2, z0, z1⟩; have FB := Lib.hid hb2; clear hb2))
      go_wp2_with fail
      go_ret
      exact ⟨rfl, FB.out⟩
  · have m1 : ((L : Int) % 64 != 0) = true := by simp; omega
    have e1 : wE n st a d = 1 := by unfold wE; rw [if_neg hm]
    have e2 : wS n st a d = st := by unfold wS; rw [if_neg hm]
    rw [e1, e2]
    have FIN := Lib.hid (Went.of_below h (Below.refl _ _))
    rw [← hD]
    clear h e1 e2 hD hL hq hq2 hq3 hm HS
    go_enter Try.func11, Try.ntmps11
    go_wp2_with fail
    go_ret
    exact ⟨rfl, FIN.out⟩
theorem oflush_any {w : World} {o : Bo} {n g : Nat} {st : Dm.St} (h : Gk w o n g st) (hP : st.P.length ≤ 1099511627776) :
    Calls Try.prog 13 #[.pointer (some ⟨o.q, 0, none⟩)] w fun e w' => e = .returned (.int .i64 (Dm.flush st).2) ∧ Went o n g (Dm.flush st).1 w w' := by
  obtain ⟨c0, c1, c2, c3, c4⟩ := h.reads
  have FL : Hid (Calls Try.prog 16 #[.pointer (some ⟨o.d.p, 0, none⟩)] w fun e w' => e = .returned (.int .i64 (Dm.flush st).2) ∧ Went o n g (Dm.flush st).1 w w') := Lib.hid (by
    refine (Dsk.flush_any h.dk hP).mono ?_
    rintro e w' ⟨he, d', hd', hs'⟩
    obtain ⟨h1, h2⟩ := h.disk hd' hs' (by
      unfold Dm.flush
      split
      · exact Dm.settle_length _ _ _
      · rw [Dm.spendS_S])
    exact ⟨he, _, h1, h2⟩)
  obtain ⟨E, hE⟩ : ∃ E, E = (Dm.flush st).2 := ⟨_, rfl⟩
  rw [← hE] at FL ⊢
  clear h hE c1 c2 c3 c4 hP
  go_enter Try.func13, Try.ntmps13
  go_wp2_with fail
  refine FL.out.mono ?_
  rintro e w' ⟨rfl, hw⟩
  have FB := Lib.hid hw
  clear hw
  go_wp2_with fail
  go_ret
  exact ⟨rfl, FB.out⟩
end Og
end Go.Proofs.Ytbmabcddciibfaa