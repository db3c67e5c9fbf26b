/- A table has what the document says. -/
import Derived.Test.YtibemiiflibnaaaTabSame
namespace Go.Proofs.Ytibemiiflibnaaa
namespace Tb
open Go.RowKit Dsk Go.Maps
set_option linter.unusedVariables false
set_option maxRecDepth 100000

theorem ents_next {w w2 : World} {v : Value} {l : List (Int × Int)} (h : Ents w v l) (hb : Below w.heap.size w w2) : Ents w2 v l := own_same h fun j hj => hb.block j (by obtain ⟨cur, hcc⟩ := own_block h j hj; exact lt_of_heap hcc)
set_option maxHeartbeats 2000000 in
theorem same_yes {w : World} {o : Ob} {v : Value} {m : List Int} (ht : Tm w o m) (hv : Ints w v m) (k : Int) (hk : (Lit.int .i64 k).wf = true) :
    Calls Try.prog 10 #[.pointer (some ⟨o.p, 0, none⟩), v, .int .i64 k] w fun e w' => e = .returned (.bool true) ∧ Below w.heap.size w w' := by
  have hok := ht.ok
  have hm := hok.few
  have hul := used_length_le m
  have hvl : ∀ k, v.ownBlock = some k → k < w.heap.size := fun k hk => by obtain ⟨cur, hc⟩ := own_block hv k hk; exact lt_of_heap hc
  have FI := Lib.hid (find_any ht k hk)
  have PG := Lib.hid (pages_yes ht hv)
  obtain ⟨a, c, rfl⟩ := ints_slice hv
  have RF := Lib.hid (rfind_any hv k hm)
  have LN : Hid (∀ W, Below w.heap.size w W → Calls Try.prog 20 #[.pointer (some ⟨o.p, 0, none⟩)] W fun e w' => e = .returned (.int .i64 ((used m).length : Int)) ∧ W = w') := Lib.hid fun W hW => len_any (ht.below hW)
  have LF : Hid (∀ W, Below w.heap.size w W → Calls Try.prog 21 #[.pointer (some ⟨o.p, 0, none⟩)] W fun e w' => e = .returned (.int .i64 ((m.length - (used m).length : Nat) : Int)) ∧ Below W.heap.size W w') := Lib.hid fun W hW => left_any (ht.below hW)
  have AL : Hid (∀ W, Below w.heap.size w W → Calls Try.prog 22 #[.pointer (some ⟨o.p, 0, none⟩)] W (MadeE (all m) W)) := Lib.hid fun W hW => all_any (ht.below hW)
  have RL : Hid (∀ W, Below w.heap.size w W → Calls Try.prog 27 #[.slice a m.length c] W fun e w' => e = .returned (.int .i64 ((used m).length : Int)) ∧ W = w') := Lib.hid fun W hW => rlen_any (ints_next hv hW) hm
  have RA : Hid (∀ W, Below w.heap.size w W → Calls Try.prog 29 #[.slice a m.length c] W (MadeE (all m) W)) := Lib.hid fun W hW => rall_any (ints_next hv hW) hok
  have hal : (all m).length ≤ 1099511627776 := by rw [all_length]; omega
  have HAL := Lib.hid hal
  have B0 : Hid (Below w.heap.size w w) := Lib.hid (Below.refl _ _)
  obtain ⟨L, hL⟩ : ∃ L, L = m.length := ⟨_, rfl⟩
  obtain ⟨U, hU⟩ : ∃ U, U = (used m).length := ⟨_, rfl⟩
  rw [← hU] at LN LF RL hul
  rw [← hL] at LF RL RA RF hul hm PG ⊢
  have k1 : IntKind.i64.wrap ((L : Int) - (U : Int)) = ((L - U : Nat) : Int) := by rw [IntWalk.i64_in _ (by omega)]; omega
  have k2 : (L : Int) - (U : Int) = ((L - U : Nat) : Int) := by omega
  obtain ⟨d, hd⟩ : ∃ d, d = L - U := ⟨_, rfl⟩
  rw [← hd] at k1 k2 LF
  have q1 : ((d : Int) == (d : Int)) = true := by simp
  have q2 : ((U : Int) == (U : Int)) = true := by simp
  cases hf : find m k with
  | none =>
    rw [findI_none hf] at RF
    rw [hf] at FI
    have m1 : max (-1 : Int) 0 = 0 := by decide
    clear ht hv hok hm hul hvl hk hal hL hU hd hf k2
    go_enter Try.func10, Try.ntmps10
    go_wp2_with (first
      | (go_at_call 17; refine FI.out.mono ?_; rintro e w' ⟨rfl, rfl⟩)
      | (go_at_call 26; refine RF.out.mono ?_; rintro e w' ⟨rfl, rfl⟩)
      | (go_at_call 13; refine PG.out.mono ?_; rintro e w1 ⟨v1, rfl, hr1, hn1, hb1⟩; have B1 := Lib.hid hb1; clear hr1 hn1 hb1)
      | (go_at_call 20; refine (LN.out _ B1.out).mono ?_; rintro e w' ⟨rfl, rfl⟩)
      | (go_at_call 27; refine (RL.out _ (by first | exact B2.out | exact B1.out)).mono ?_; rintro e w' ⟨rfl, rfl⟩)
      | (go_at_call 21; refine (LF.out _ B1.out).mono ?_; rintro e w2 ⟨rfl, hb2⟩; have B2 := Lib.hid (B1.out.trans (hb2.mono B1.out.size)); clear hb2)
      | (go_at_call 22; refine (AL.out _ B2.out).mono ?_; rintro e w3 ⟨v3, rfl, hr3, hn3, hb3⟩; obtain ⟨a3, c3, hv3⟩ := ents_slice hr3; subst hv3; have R3 := Lib.hid hr3; have B3 := Lib.hid (B2.out.trans (hb3.mono B2.out.size)); clear hr3 hn3 hb3)
      | (go_at_call 29; refine (RA.out _ B3.out).mono ?_; rintro e w4 ⟨v4, rfl, hr4, hn4, hb4⟩; obtain ⟨a4, c4, hv4⟩ := ents_slice hr4; subst hv4; have R3b := Lib.hid (ents_next R3.out hb4); have B4 := Lib.hid (B3.out.trans (hb4.mono B3.out.size)); have SA := Lib.hid (esame_yes R3b.out hr4 HAL.out); clear hr4 hn4 hb4)
      | (go_at_call 28; refine SA.out.mono ?_; rintro e w5 ⟨rfl, hb5⟩; have B5 := Lib.hid (B4.out.trans (hb5.mono B4.out.size)); clear hb5))
    go_ret
    exact ⟨rfl, B5.out⟩
  | some i =>
    rw [findI_some hf] at RF
    rw [hf] at FI
    have m1 : max (i : Int) 0 = (i : Int) := by omega
    have m2 : decide ((0 : Int) ≤ (i : Int)) = true := by simp
    have m3 : ((i : Int) == (i : Int)) = true := by simp
    clear ht hv hok hm hul hvl hk hal hL hU hd hf k2
    go_enter Try.func10, Try.ntmps10
    go_wp2_with (first
      | (go_at_call 17; refine FI.out.mono ?_; rintro e w' ⟨rfl, rfl⟩)
      | (go_at_call 26; refine RF.out.mono ?_; rintro e w' ⟨rfl, rfl⟩)
      | (go_at_call 13; refine PG.out.mono ?_; rintro e w1 ⟨v1, rfl, hr1, hn1, hb1⟩; have B1 := Lib.hid hb1; clear hr1 hn1 hb1)
      | (go_at_call 20; refine (LN.out _ B1.out).mono ?_; rintro e w' ⟨rfl, rfl⟩)
      | (go_at_call 27; refine (RL.out _ (by first | exact B2.out | exact B1.out)).mono ?_; rintro e w' ⟨rfl, rfl⟩)
      | (go_at_call 21; refine (LF.out _ B1.out).mono ?_; rintro e w2 ⟨rfl, hb2⟩; have B2 := Lib.hid (B1.out.trans (hb2.mono B1.out.size)); clear hb2)
      | (go_at_call 22; refine (AL.out _ B2.out).mono ?_; rintro e w3 ⟨v3, rfl, hr3, hn3, hb3⟩; obtain ⟨a3, c3, hv3⟩ := ents_slice hr3; subst hv3; have R3 := Lib.hid hr3; have B3 := Lib.hid (B2.out.trans (hb3.mono B2.out.size)); clear hr3 hn3 hb3)
      | (go_at_call 29; refine (RA.out _ B3.out).mono ?_; rintro e w4 ⟨v4, rfl, hr4, hn4, hb4⟩; obtain ⟨a4, c4, hv4⟩ := ents_slice hr4; subst hv4; have R3b := Lib.hid (ents_next R3.out hb4); have B4 := Lib.hid (B3.out.trans (hb4.mono B3.out.size)); have SA := Lib.hid (esame_yes R3b.out hr4 HAL.out); clear hr4 hn4 hb4)
      | (go_at_call 28; refine SA.out.mono ?_; rintro e w5 ⟨rfl, hb5⟩; have B5 := Lib.hid (B4.out.trans (hb5.mono B4.out.size)); clear hb5))
    go_ret
    exact ⟨rfl, B5.out⟩
end Tb
end Go.Proofs.Ytibemiiflibnaaa
