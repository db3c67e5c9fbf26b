/- The document's own answer: where any number of sectors fits, how many are free. -/
import Derived.Test.YtemdlnphlibcaaaExtRGaps
import Derived.Test.YtemdlnphlibcaaaExtFit2
namespace Go.Proofs.Ytemdlnphlibcaaa
namespace Xm
open Go.RowKit
set_option maxRecDepth 100000
set_option linter.unusedVariables false

theorem results_ext {fn : Func} {p u : Tmp} (h : fn.results = #[.cell p 23, .tmp u]) (tmps : Array Value) (w : World) (g : Nat) (x y v : Value)
    (hp : tmps.getD p undef = .pointer (some ⟨g, 0, none⟩)) (hu : tmps.getD u undef = v) (hg : w.heap[g]? = some (.cells #[x, y] 23 (0, 0))) :
    (results fn tmps).run Try.prog w = .ok (.tuple #[.agg #[x, y], v]) w := by
  have hi : (Try.prog.info? 23).map (·.size) = some (#[x, y] : Array Value).size := by show _ = some 2; kernel_rfl
  rw [results_cell_tmp h, hp, hu]
  simp [asAddr, run_loadVar_row w g 23 23 #[x, y] (0, 0) _ hg Try.underlying23 rfl hi, Result.andThen]
theorem pair_made (w : World) (s l : Int) (W0 : World) (h : (w.alloc (.cells #[.int .i64 s, .int .i64 l] 23)).alloc (.cells #[.int .i64 0, .int .i64 0] 23) = W0) :
    Below w.heap.size w W0 ∧ Bx W0 w.heap.size s l ∧ Bx W0 (w.heap.size + 1) 0 0 ∧ W0.heap.size = w.heap.size + 2 := two_made w s l 0 0 W0 h

theorem rfit_no (s l m : Int) (u : List (Int × Int)) (n : Nat) (hn : n = u.length) (hn63 : n ≤ 4611686018427387904) (p : Option Addr) (c : Nat) (w : World) (hu : Exts w p u) (h : ¬ (okB s l u = true ∧ 1 ≤ m)) :
    Calls Try.prog 10 #[.agg #[.int .i64 s, .int .i64 l], .int .i64 m, .slice p n c] w fun e w' => e = .returned (.tuple #[.agg #[.int .i64 0, .int .i64 0], .int .i64 1]) ∧ Below w.heap.size w w' := by
  obtain ⟨W0, hW0⟩ : ∃ W0, (w.alloc (.cells #[.int .i64 s, .int .i64 l] 23)).alloc (.cells #[.int .i64 0, .int .i64 0] 23) = W0 := ⟨_, rfl⟩
  obtain ⟨hB, hx, hg, hsz⟩ := pair_made w s l W0 hW0
  have HB := Lib.hid hB
  have HG := Lib.hid hg
  have c0 := hx.c0
  have c1 := hx.c1
  have hu0 : Exts W0 p u := hu.next hB
  cases ho : okB s l u with
  | false =>
    have R := Lib.hid (rgaps_no s l u n hn hn63 p c W0 hu0 ho)
    clear hB hx hg hu hn h hu0 ho
    go_enter Try.func10, Try.ntmps10
    go_wp2_with fail
    clear hW0
    refine R.out.mono ?_
    rintro e w1 ⟨rfl, hb⟩
    have HB1 := Lib.hid (HB.out.trans (hb.mono HB.out.size))
    have HG1 := Lib.hid (HG.out.next hb)
    have g0 := HG1.out.c0
    have g1 := HG1.out.c1
    obtain ⟨f0, f1⟩ := HG1.out.frozen
    clear hb c0 c1
    go_wp2_with fail
    refine bodyPost_ret (results_ext (p := 6) (u := 7) rfl _ _ (w.heap.size + 1) _ _ _ rfl rfl (duo_set HG1.out _ _)) rfl ⟨rfl, ?_⟩
    exact below_duo HB1.out (by omega) _ _
  | true =>
    have hm1 : decide (m < 1) = true := by
      simp; by_cases c : 1 ≤ m
      · exact absurd ⟨ho, c⟩ h
      · omega
    have R := Lib.hid (rgaps_ok s l u n hn hn63 p c W0 hu0 ho)
    clear hB hx hg hu hn h hu0 ho
    go_enter Try.func10, Try.ntmps10
    go_wp2_with fail
    clear hW0
    refine R.out.mono ?_
    rintro e w1 ⟨v, rfl, _, hb⟩
    have HB1 := Lib.hid (HB.out.trans (hb.mono HB.out.size))
    have HG1 := Lib.hid (HG.out.next hb)
    have g0 := HG1.out.c0
    have g1 := HG1.out.c1
    obtain ⟨f0, f1⟩ := HG1.out.frozen
    clear hb c0 c1
    go_wp2_with fail
    refine bodyPost_ret (results_ext (p := 6) (u := 7) rfl _ _ (w.heap.size + 1) _ _ _ rfl rfl (duo_set HG1.out _ _)) rfl ⟨rfl, ?_⟩
    exact below_duo HB1.out (by omega) _ _

theorem room_at {m : Int} {gs : List (Int × Int)} {k : Nat} (hk : k < gs.length) (h : ∀ j (hj : j < gs.length), j < k → ¬ m ≤ gs[j].2) (hx : m ≤ gs[k].2) : room m gs = some gs[k] := by
  refine room_first (pre := gs.take k) ?_ (fun y hy => ?_) hx
  · rw [← List.take_succ_eq_append_getElem hk]; exact List.take_prefix _ _
  · obtain ⟨j, hj, e⟩ := List.getElem_of_mem hy
    rw [List.length_take] at hj
    rw [List.getElem_take] at e
    rw [← e]; exact h j (by omega) (by omega)
theorem room_all {m : Int} {gs : List (Int × Int)} {k : Nat} (hk : gs.length ≤ k) (h : ∀ j (hj : j < gs.length), j < k → ¬ m ≤ gs[j].2) : room m gs = none :=
  room_none fun x hx => by
    obtain ⟨j, hj, e⟩ := List.getElem_of_mem hx
    rw [← e]; exact h j hj (by omega)

theorem rfit_ok (s l m : Int) (u : List (Int × Int)) (n : Nat) (hn : n = u.length) (hn63 : n ≤ 4611686018427387904) (p : Option Addr) (c : Nat) (w : World) (hu : Exts w p u) (h : okB s l u = true) (h1 : 1 ≤ m) :
    Calls Try.prog 10 #[.agg #[.int .i64 s, .int .i64 l], .int .i64 m, .slice p n c] w fun e w' => e = .returned (.tuple #[.agg #[.int .i64 (fitS s l m u), .int .i64 (fitL s l m u)], .int .i64 (fitE s l m u)]) ∧ Below w.heap.size w w' := by
  obtain ⟨W0, hW0⟩ : ∃ W0, (w.alloc (.cells #[.int .i64 s, .int .i64 l] 23)).alloc (.cells #[.int .i64 0, .int .i64 0] 23) = W0 := ⟨_, rfl⟩
  obtain ⟨hB, hx, hg, hsz⟩ := pair_made w s l W0 hW0
  have HB := Lib.hid hB
  have HG := Lib.hid hg
  have c0 := hx.c0
  have c1 := hx.c1
  have R := Lib.hid (rgaps_ok s l u n hn hn63 p c W0 (hu.next hB) h)
  have hok := ok_iff.1 h
  obtain ⟨_, _, _, h4⟩ := reg_iff.1 hok.1
  have hgl := gaps_len s l u
  obtain ⟨N, hN⟩ : ∃ N, N = (gaps s l u).length := ⟨_, rfl⟩
  have hN2 : N ≤ 1048576 := by omega
  have HQ0 := Lib.hid (fun hr => fit_none (u := u) ⟨h, h1⟩ hr)
  have HQ1 := Lib.hid (fun x hr => fit_some (u := u) ⟨h, h1⟩ (x := x) hr)
  obtain ⟨gs, hgs⟩ : ∃ gs, gs = gaps s l u := ⟨_, rfl⟩
  rw [← hgs] at R HQ0 HQ1 hN
  have HN := Lib.hid hN
  have d1 : decide (m < 1) = false := by simp; omega
  clear hB hx hg hu hn h hsz hok h4 hgl hgs hN h1
  go_enter Try.func10, Try.ntmps10
  go_wp2_with fail
  clear hW0
  refine R.out.mono ?_
  rintro e w1 ⟨v, rfl, hown, hb⟩
  obtain ⟨q, d, rfl, hrow⟩ := Exts.own hown
  have HB1 := Lib.hid (HB.out.trans (hb.mono HB.out.size))
  have HG1 := Lib.hid (HG.out.next hb)
  have g0 := HG1.out.c0
  have g1 := HG1.out.c1
  obtain ⟨f0, f1⟩ := HG1.out.frozen
  have HR := Lib.hid hrow
  rw [← HN.out]
  clear hb c0 c1 hown hrow
  go_wp2_with fail
  go_loopw [10] (fun i wr => ∃ k : Nat, k ≤ N ∧ i = .int .i64 k ∧ wr = w1 ∧ Hid (∀ j (hj : j < gs.length), j < k → ¬ m ≤ gs[j].2)) (fun i _ => N - (intOf i).toNat)
  case atStart => exact ⟨0, Nat.zero_le _, rfl, rfl, Lib.hid (fun j _ h => absurd h (by omega))⟩
  case round =>
    obtain ⟨k, hk, rfl, rfl, hno⟩ := hrel
    by_cases hlt : k < N
    · have hkl : k < gs.length := by rw [← HN.out]; exact hlt
      have hne : gs ≠ [] := by intro e; rw [e] at hkl; simp at hkl
      obtain ⟨b, off, rfl, hbl, hc⟩ := HR.out hne
      obtain ⟨r0, r1⟩ := hc k hkl
      obtain ⟨⟨xa, xb⟩, hx⟩ : ∃ x, x = gs[k] := ⟨_, rfl⟩
      rw [← hx] at r0 r1
      dsimp only at r0 r1
      have HX : Hid (∀ h : k < gs.length, gs[k] = (xa, xb)) := fun _ => hx.symm
      have HK := Lib.hid hkl
      have hd : decide ((k : Int) < (N : Int)) = true := by simp; omega
      have hd2 : decide (k < N) = true := by simp; omega
      have hd3 : (k : Int) < (N : Int) := by omega
      clear hx hkl hne hc hbl
      cases d2 : decide (m ≤ xb) with
      | true =>
        have d3 : decide (xb ≥ m) = true := d2
        have HQ := Lib.hid (HQ1.out (xa, xb) (by rw [← HX.out HK.out]; exact room_at HK.out hno.out (by rw [HX.out]; simpa using d2)))
        go_wp2_with fail
        refine bodyPost_ret (results_ext (p := 6) (u := 7) rfl _ _ (w.heap.size + 1) _ _ _ rfl rfl (duo_set HG1.out _ _)) rfl ⟨?_, ?_⟩
        · obtain ⟨q1, q2, q3⟩ := HQ.out; rw [q1, q2, q3]; rfl
        · exact below_duo HB1.out (by omega) _ _
      | false =>
        have d3 : decide (xb ≥ m) = false := d2
        have HNO : Hid (∀ j (hj : j < gs.length), j < k + 1 → ¬ m ≤ gs[j].2) := Lib.hid fun j h hj => by
          by_cases e : j = k
          · subst e; rw [HX.out]; simpa using d2
          · exact hno.out j h (by omega)
        go_wp2_with fail
        go_roundw
        case rel => exact ⟨k + 1, by omega, by go_num, by trivial, HNO⟩
        case measure => simp [intOf]; omega
    · have hd : decide ((k : Int) < (N : Int)) = false := by simp; omega
      have hd2 : decide (k < N) = false := by simp; omega
      have HQ := Lib.hid (HQ0.out (room_all (by have := HN.out; omega) hno.out))
      go_wp2_with fail
      refine bodyPost_ret (results_ext (p := 6) (u := 7) rfl _ _ (w.heap.size + 1) _ _ _ rfl rfl (duo_set HG1.out _ _)) rfl ⟨?_, ?_⟩
      · obtain ⟨q1, q2, q3⟩ := HQ.out; rw [q1, q2, q3]; rfl
      · exact below_duo HB1.out (by omega) _ _

theorem rfree_no (s l : Int) (u : List (Int × Int)) (n : Nat) (hn : n = u.length) (hn63 : n ≤ 4611686018427387904) (p : Option Addr) (c : Nat) (w : World) (hu : Exts w p u) (h : okB s l u = false) :
    Calls Try.prog 15 #[.agg #[.int .i64 s, .int .i64 l], .slice p n c] w fun e w' => e = .returned (.int .i64 0) ∧ Below w.heap.size w w' := by
  have HB := Lib.hid (below_new w (.cells #[.int .i64 s, .int .i64 l] 23))
  have hx := Bx.new w s l
  have c0 := hx.c0
  have c1 := hx.c1
  have R := Lib.hid (rgaps_no s l u n hn hn63 p c _ (hu.next HB.out) h)
  clear hx h hu hn
  go_enter Try.func15, Try.ntmps15
  go_wp2_with fail
  refine R.out.mono ?_
  rintro e w1 ⟨rfl, hb⟩
  have HB1 := Lib.hid (HB.out.trans (hb.mono HB.out.size))
  clear hb c0 c1
  go_wp2_with fail
  refine wp_loop_rounds 1 ?_
  rw [rounds_succ]
  go_wp2_with fail
  go_ret
  exact ⟨rfl, HB1.out⟩
theorem sumL_take {gs : List (Int × Int)} {k : Nat} (hk : k < gs.length) : sumL (gs.take (k + 1)) = sumL (gs.take k) + gs[k].2 := by
  rw [List.take_succ_eq_append_getElem hk, sumL_append]; simp [sumL]
theorem rfree_ok (s l : Int) (u : List (Int × Int)) (n : Nat) (hn : n = u.length) (hn63 : n ≤ 4611686018427387904) (p : Option Addr) (c : Nat) (w : World) (hu : Exts w p u) (h : okB s l u = true) :
    Calls Try.prog 15 #[.agg #[.int .i64 s, .int .i64 l], .slice p n c] w fun e w' => e = .returned (.int .i64 (free s l u)) ∧ Below w.heap.size w w' := by
  have HB := Lib.hid (below_new w (.cells #[.int .i64 s, .int .i64 l] 23))
  have hx := Bx.new w s l
  have c0 := hx.c0
  have c1 := hx.c1
  have R := Lib.hid (rgaps_ok s l u n hn hn63 p c _ (hu.next HB.out) h)
  have hok := ok_iff.1 h
  obtain ⟨_, _, h3, h4⟩ := reg_iff.1 hok.1
  have hgl := gaps_len s l u
  have hfs := free_small s l u hok.1
  obtain ⟨N, hN⟩ : ∃ N, N = (gaps s l u).length := ⟨_, rfl⟩
  have hN2 : N ≤ 1048576 := by omega
  obtain ⟨gs, hgs⟩ : ∃ gs, gs = gaps s l u := ⟨_, rfl⟩
  have HF := Lib.hid (show IntKind.i64.wrap (sumL gs) = free s l u by rw [hgs]; exact IntWalk.i64_in _ (by unfold free at hfs; omega))
  rw [← hgs] at R hN
  have HN := Lib.hid hN
  clear hx h hu hn hok h3 h4 hgl hgs hN hfs
  go_enter Try.func15, Try.ntmps15
  go_wp2_with fail
  refine R.out.mono ?_
  rintro e w1 ⟨v, rfl, hown, hb⟩
  obtain ⟨q, d, rfl, hrow⟩ := Exts.own hown
  have HB1 := Lib.hid (HB.out.trans (hb.mono HB.out.size))
  have HR := Lib.hid hrow
  rw [← HN.out]
  clear hb c0 c1 hown hrow
  go_wp2_with fail
  go_loopw [7, 8] (fun v i wr => ∃ k : Nat, k ≤ N ∧ i = .int .i64 k ∧ wr = w1 ∧ v = .int .i64 (IntKind.i64.wrap (sumL (gs.take k)))) (fun _ i _ => N - (intOf i).toNat)
  case atStart => exact ⟨0, Nat.zero_le _, rfl, rfl, rfl⟩
  case round =>
    obtain ⟨k, hk, rfl, rfl, rfl⟩ := hrel
    by_cases hlt : k < N
    · have hkl : k < gs.length := by rw [← HN.out]; exact hlt
      have hne : gs ≠ [] := by intro e; rw [e] at hkl; simp at hkl
      obtain ⟨b, off, rfl, hbl, hc⟩ := HR.out hne
      obtain ⟨r0, r1⟩ := hc k hkl
      obtain ⟨⟨xa, xb⟩, hx⟩ : ∃ x, x = gs[k] := ⟨_, rfl⟩
      rw [← hx] at r0 r1
      dsimp only at r0 r1
      obtain ⟨t, ht⟩ : ∃ t, t = IntKind.i64.wrap (sumL (gs.take k)) := ⟨_, rfl⟩
      obtain ⟨t2, ht2⟩ : ∃ t2, IntKind.i64.wrap (t + xb) = t2 := ⟨_, rfl⟩
      have HT := Lib.hid (show t2 = IntKind.i64.wrap (sumL (gs.take (k + 1))) by rw [sumL_take hkl, ← hx, ← ht2, ht, wrap_sum])
      rw [← ht]
      have hd : decide ((k : Int) < (N : Int)) = true := by simp; omega
      have hd2 : decide (k < N) = true := by simp; omega
      have hd3 : (k : Int) < (N : Int) := by omega
      clear hx hkl hne hc hbl ht
      go_wp2_with fail
      go_roundw
      case rel => exact ⟨k + 1, by omega, by go_num, by trivial, by rw [HT.out]⟩
      case measure => simp [intOf]; omega
    · have hd : decide ((k : Int) < (N : Int)) = false := by simp; omega
      have hd2 : decide (k < N) = false := by simp; omega
      have hkN : gs.take k = gs := List.take_of_length_le (by have := HN.out; omega)
      rw [hkN, HF.out]
      clear hkN
      go_wp2_with fail
      go_ret
      exact ⟨rfl, HB1.out⟩
end Xm
end Go.Proofs.Ytemdlnphlibcaaa
