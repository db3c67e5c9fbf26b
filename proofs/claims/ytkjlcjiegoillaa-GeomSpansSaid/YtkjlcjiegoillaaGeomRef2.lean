/- Contract of the document's Split: sector by sector. -/
import Derived.Test.YtkjlcjiegoillaaGeomRef
import Derived.Deep.RegionLaw
import Derived.Deep.AppendLies
namespace Go.Proofs.Ytkjlcjiegoillaa
namespace Geo
open Go.RowKit
set_option linter.unusedVariables false

theorem rsplit_no (o c a m : Int) (w : World) (ho : o ≤ 9223372036854775807) (ha : a ≤ 9223372036854775807) (h : splitE o c a m ≠ 0) : Calls Try.prog 10 #[.int .i64 o, .int .i64 c, .agg #[.int .i64 a, .int .i64 m]] w fun e w' => e = .returned (.tuple #[.slice none 0 0, .int .i64 (splitE o c a m)]) ∧ Below w.heap.size w w' := by
  have C := Lib.hid (rright_any o c)
  have HB : Hid (Below w.heap.size w (w.alloc (.cells #[.int .i64 a, .int .i64 m] 25))) := (Below.refl _ w).alloc (Nat.le_refl _) _
  cases hr : Em.rightB o c with
  | false =>
    rw [splitE_wrong hr]
    rw [hr] at C
    clear h hr
    go_enter Try.func10, Try.ntmps10
    go_wp2_with fail
    refine (C.out _).mono ?_
    rintro e w1 ⟨rfl, rfl⟩
    go_wp2_with fail
    go_ret2
    exact ⟨rfl, HB.out⟩
  | true =>
    rw [hr] at C
    rcases splitE_right hr (a := a) (m := m) with h1 | ⟨h1, h2⟩
    · exact (h h1.1).elim
    · rw [h1]
      obtain ⟨g1, g2, g3, g4⟩ := (Em.right_iff _ _).1 hr
      clear h hr h1
      by_cases d1 : a < 0
      · go_enter Try.func10, Try.ntmps10
        have e1 : decide (a < 0) = true := by simpa using d1
        go_wp2_with fail
        refine (C.out _).mono ?_
        rintro e w1 ⟨rfl, rfl⟩
        go_wp2_with fail
        go_ret2
        exact ⟨rfl, HB.out⟩
      · have e1 : decide (a < 0) = false := by simpa using d1
        by_cases d2 : m < 0
        · have e2 : decide (m < 0) = true := by simpa using d2
          go_enter Try.func10, Try.ntmps10
          go_wp2_with fail
          refine (C.out _).mono ?_
          rintro e w1 ⟨rfl, rfl⟩
          go_wp2_with fail
          go_ret2
          exact ⟨rfl, HB.out⟩
        · have e2 : decide (m < 0) = false := by simpa using d2
          by_cases d3 : o < a
          · have e3 : decide (o < a) = true := by simpa using d3
            go_enter Try.func10, Try.ntmps10
            go_wp2_with fail
            refine (C.out _).mono ?_
            rintro e w1 ⟨rfl, rfl⟩
            go_wp2_with fail
            go_ret2
            exact ⟨rfl, HB.out⟩
          · have e3 : decide (o < a) = false := by simpa using d3
            have e4 : decide (o - a < m) = true := by simp; omega
            go_enter Try.func10, Try.ntmps10
            go_wp2_with fail
            refine (C.out _).mono ?_
            rintro e w1 ⟨rfl, rfl⟩
            go_wp2_with fail
            go_ret2
            exact ⟨rfl, HB.out⟩
theorem info_rpiece : (Try.prog.info? 52).map (fun i => (i.zero, i.size, i.bytes)) = some (some (.agg #[.int .i64 0, .int .i64 0, .int .i64 0]), 3, 24) := by kernel_rfl

/-- The last piece has one more: in its row. -/
theorem pcells_set (l : List Em.Pc) (x : Em.Pc) : (pcells (l ++ [x])).set (l.length * 3 + 2) (.int .i64 ((x.n : Int) + 1)) = pcells (l ++ [⟨x.c, x.f, x.n + 1⟩]) := by
  rw [pcells_snoc, pcells_snoc, List.set_append_right _ _ (by rw [pcells_length]; omega), pcells_length, show l.length * 3 + 2 - l.length * 3 = 2 by omega]
  simp

set_option maxHeartbeats 1000000 in
theorem rsplit_ok (o c a m : Nat) (w : World) (hr : Em.rightB o c = true) (ham : a + m ≤ o) : Calls Try.prog 10 #[.int .i64 (o : Int), .int .i64 (c : Int), .agg #[.int .i64 (a : Int), .int .i64 (m : Int)]] w fun e w' =>
    ∃ v, e = .returned (.tuple #[v, .int .i64 0]) ∧ w'.ownsRow w.heap.size 52 3 v (Em.split c a m).length (pcells (Em.split c a m)) ∧ Below w.heap.size w w' := by
  have C := Lib.hid (rright_any o c)
  rw [hr] at C
  obtain ⟨g1, g2, g3, g4⟩ := (Em.right_iff _ _).1 hr
  obtain ⟨i0, hi, hz0, hz1, hz2⟩ := info_parts info_rpiece
  obtain ⟨W0, hW0⟩ : ∃ W0, w.alloc (.cells #[.int .i64 (a : Int), .int .i64 (m : Int)] 25) = W0 := ⟨_, rfl⟩
  have hz : W0.heap[w.heap.size]? = some (.cells #[.int .i64 (a : Int), .int .i64 (m : Int)] 25 (0, 0)) := by rw [← hW0]; exact heap_alloc_new _ _
  have hsz : W0.heap.size = w.heap.size + 1 := by rw [← hW0]; simp
  have HB : Hid (Below w.heap.size w W0) := by rw [← hW0]; exact (Below.refl _ w).alloc (Nat.le_refl _) _
  have HZ := Lib.hid hz
  have z0 : W0.cell? ⟨w.heap.size, 0, none⟩ = some (.int .i64 (a : Int)) := by rw [cell_of_row _ _ _ _ _ _ hz]; rfl
  have z1 : W0.cell? ⟨w.heap.size, 1, none⟩ = some (.int .i64 (m : Int)) := by rw [cell_of_row _ _ _ _ _ _ hz]; rfl
  have d1 : decide ((a : Int) < 0) = false := by simp
  have d2 : decide ((m : Int) < 0) = false := by simp
  have d3 : decide ((o : Int) < (a : Int)) = false := by simp; omega
  have d3n : decide (o < a) = false := by simp; omega
  have d4 : decide ((o : Int) - (a : Int) < (m : Int)) = false := by simp; omega
  have hc : 1 ≤ c := by omega
  have ho : o ≤ 1048576 := by omega
  clear hr hz g1 g2 g3
  go_enter Try.func10, Try.ntmps10
  go_wp2_with fail
  refine (C.out _).mono ?_
  rintro e w1 ⟨rfl, rfl⟩
  clear C hW0
  go_wp2_with fail
  clear d1 d2 d3 d4 d3n
  go_loopw [9, 10] (fun v i wr => ∃ k : Nat, k ≤ m ∧ i = .int .i64 k ∧ Hid (wr.ownsRow (w.heap.size + 1) 52 3 v (Em.split c a k).length (pcells (Em.split c a k))) ∧ Hid (Below (w.heap.size + 1) W0 wr)) (fun _ i _ => m - (intOf i).toNat)
  case atStart => exact ⟨0, Nat.zero_le _, rfl, Lib.hid (World.ownsRow_nil _ _ _ _), Lib.hid (Below.refl _ _)⟩
  case round =>
    obtain ⟨k, hk, rfl, hrow, hbel⟩ := hrel
    have y0 := (hbel.out.cell (p := ⟨w.heap.size, 0, none⟩) (by simp)).trans z0
    have y1 := (hbel.out.cell (p := ⟨w.heap.size, 1, none⟩) (by simp)).trans z1
    have hwr : w.heap.size + 1 ≤ wr.heap.size := by have := hbel.out.size; omega
    by_cases hlt : k < m
    · have hd : decide ((k : Int) < (m : Int)) = true := by simp; omega
      have hs := Em.split_succ (c := c) (by omega) a k
      have hpl := Em.split_length c a k
      obtain ⟨t, ht⟩ : ∃ t, t = a + k := ⟨_, rfl⟩
      rw [← ht] at hs
      obtain ⟨f, hf⟩ : ∃ f, f = t % c := ⟨_, rfl⟩
      have hfi : (t : Int) % (c : Int) = (f : Int) := by rw [hf]; simp
      have hti : (a : Int) + (k : Int) = (t : Int) := by rw [ht]; simp
      have htm : (t : Int).tmod (c : Int) = (f : Int) := by rw [Int.tmod_eq_emod_of_nonneg (by omega)]; exact hfi
      rw [← hf] at hs
      have htl : t ≤ 1048576 := by omega
      by_cases hcond : 0 < k ∧ f ≠ 0
      · rw [if_pos hcond] at hs
        obtain ⟨hk0, hf0⟩ := hcond
        have hne : Em.split c a k ≠ [] := by
          intro e
          have := Em.cut_sum (c := c) (by omega) k a (a + k) (by omega) (by omega)
          rw [show Em.cut c k a (a + k) = [] from e] at this
          simp at this
          omega
        obtain ⟨l, x, hlx⟩ : ∃ l x, Em.split c a k = l ++ [x] := ⟨_, _, (List.dropLast_concat_getLast hne).symm⟩
        rw [hlx, Em.bump_snoc] at hs
        rw [hlx] at hrow hpl
        obtain ⟨n, hn⟩ : ∃ n, n = l.length := ⟨_, rfl⟩
        rw [List.length_append, List.length_singleton, ← hn] at hrow hpl
        obtain ⟨g, cap, rfl⟩ := ownsRow_succ hrow.out
        have hxl : x.n ≤ k := by
          have := Em.cut_sum (c := c) (by omega) k a (a + k) (by omega) (by omega)
          rw [show Em.cut c k a (a + k) = l ++ [x] from hlx] at this
          simp at this
          omega
        have r0 : wr.cell? ⟨g, n * 3 + 2, none⟩ = some (.int .i64 (x.n : Int)) := by
          rw [hrow.out.cellAt _ (by omega), pcells_snoc, List.getElem?_append_right (by rw [pcells_length]; omega), pcells_length, hn, show l.length * 3 + 2 - l.length * 3 = 2 by omega]
          rfl
        have r1 := hrow.out.frozenAt (n * 3 + 2)
        have hgb := (own_ge hrow.out g rfl).1
        have ST := Lib.hid (hrow.out.stored (n * 3 + 2) (.int .i64 ((x.n : Int) + 1)))
        have HS := Lib.hid hs
        have HN := Lib.hid hn
        have e1 : decide (0 < k) = true := by simpa using hk0
        have e1' : decide (0 < (k : Int)) = true := by simpa using hk0
        have e2 : ((f : Int) != 0) = true := by simp; omega
        have i1 : (0 : Int) ≤ (n : Int) + 1 - 1 := by omega
        have i2 : (n : Int) + 1 - 1 = (n : Int) := by omega
        clear hs hn hf ht hlx hne hrow hf0
        go_wp2_with fail
        refine ⟨⟨k + 1, by omega, by simp, Lib.hid ?_, Lib.hid (hbel.out.setCell (p := ⟨g, n * 3 + 2, none⟩) hgb _)⟩, by simp [intOf]; omega⟩
        rw [HS.out, ← pcells_set, List.length_append, List.length_singleton, ← HN.out]
        exact ST.out.1
      · rw [if_neg hcond] at hs
        obtain ⟨n, hn⟩ : ∃ n, n = (Em.split c a k).length := ⟨_, rfl⟩
        rw [← hn] at hrow hpl
        obtain ⟨pa, pc, hv⟩ : ∃ a' c', u9 = .slice a' n c' := by
          rcases hrow.out.2 with ⟨h, h0⟩ | ⟨g, cap, cur, h, _⟩
          · exact ⟨none, 0, by rw [h, h0]⟩
          · exact ⟨_, _, h⟩
        subst hv
        obtain ⟨q, hq⟩ : ∃ q, q = t / c := ⟨_, rfl⟩
        have hqi : (t : Int) / (c : Int) = (q : Int) := by rw [hq]; simp
        rw [← hq] at hs
        have hfl : f < c := by rw [hf]; exact Nat.mod_lt _ (by omega)
        have hql : q ≤ t := by rw [hq]; exact Nat.div_le_self _ _
        have HS := Lib.hid hs
        have HN := Lib.hid hn
        have HO : Hid (∀ r, (Value.slice pa n pc).ownBlock = some r → w.heap.size + 1 ≤ r) := fun r hr => (own_ge hrow.out r hr).1
        have OWN : Hid ((wr.alloc (.cells #[.int .i64 (q : Int), .int .i64 (f : Int), .int .i64 1] 52)).drew.ownsRow (w.heap.size + 1) 52 3 (.slice pa n pc) n (pcells (Em.split c a k))) :=
          (hrow.out.alloc _).drew
        have NEWS : Hid (∀ j u, ([.int .i64 (q : Int), .int .i64 (f : Int), .int .i64 1] : List Value)[j]? = some u → (wr.alloc (.cells #[.int .i64 (q : Int), .int .i64 (f : Int), .int .i64 1] 52)).drew.cell? ((⟨wr.heap.size, 0, none⟩ : Addr).add j) = some u) :=
          World.news_of_block (cs := #[.int .i64 (q : Int), .int .i64 (f : Int), .int .i64 1]) (show (wr.alloc _).heap[wr.heap.size]? = _ from heap_alloc_new _ _)
        have ONE : Hid (∀ u ∈ ([.int .i64 (q : Int), .int .i64 (f : Int), .int .i64 1] : List Value), u.oneCell' = true) := by
          refine Lib.hid ?_
          simp [Value.oneCell']
        have HW := Lib.hid hbel.out
        have fin : Hid (∀ g cap (w2 : World), w2.ownsRow (w.heap.size + 1) 52 3 (.slice (some ⟨g, 0, none⟩) (n + 1) cap) (n + 1) (pcells (Em.split c a k) ++ [.int .i64 (q : Int), .int .i64 (f : Int), .int .i64 1]) →
            (wr.alloc (.cells #[.int .i64 (q : Int), .int .i64 (f : Int), .int .i64 1] 52)).drew.grownBy w2 (Value.slice pa n pc).ownBlock →
            w2.ownsRow (w.heap.size + 1) 52 3 (.slice (some ⟨g, 0, none⟩) (n + 1) cap) (Em.split c a (k + 1)).length (pcells (Em.split c a (k + 1))) ∧ Below (w.heap.size + 1) W0 w2) := by
          intro g cap w2 h1 h2
          refine ⟨?_, ?_⟩
          · rw [HS.out, pcells_snoc, List.length_append, List.length_singleton, ← HN.out]
            exact h1
          · exact ((HW.out.alloc hwr _).drew).grown h2 (by show _ ≤ (wr.alloc _).heap.size; simp; omega) (fun j e => HO.out j e.symm.symm)
        have hn2 : n ≤ 1048576 := by omega
        have hc0 : c ≠ 0 := by omega
        have hwq : IntKind.i64.wrap (q : Int) = (q : Int) := IntWalk.i64_in _ (by omega)
        have hwf : IntKind.i64.wrap (f : Int) = (f : Int) := IntWalk.i64_in _ (by omega)
        by_cases hk0 : 0 < k
        · have e1 : decide (0 < k) = true := by simpa using hk0
          have e1' : decide (0 < (k : Int)) = true := by simpa using hk0
          have hf0 : f = 0 := by
            rcases Nat.eq_zero_or_pos f with h | h
            · exact h
            · exact (hcond ⟨hk0, by omega⟩).elim
          have e2 : ((f : Int) != 0) = false := by simp; omega
          clear hs hn hf ht hq hrow hbel hcond hf0
          go_wp2_with fail
          go_region_law (refine step_append_lies _ rfl (.tmp 68) (.tmp 76) 34 rfl (w.heap.size + 1) 52 i0 _ 3 24 Try.underlying34 hi hz0 hz1 hz2 rfl (by decide) (.slice pa n pc) n (pcells (Em.split c a k)) (by simp [Act.eval]) OWN.out ⟨wr.heap.size, 0, none⟩ 1 1 [.int .i64 (q : Int), .int .i64 (f : Int), .int .i64 1] (by simp [Act.eval]) rfl NEWS.out ONE.out (by omega) (by unfold maxLen; omega) (by omega) (by show _ ≤ (wr.alloc _).heap.size; simp; omega) (wr.heap.size + 1) (by simp) ?_; intro g cap w2 hown2 hg2 hat2 hlt2; have FI := Lib.hid (fin.out g cap w2 hown2 hg2); clear hown2 hg2 hat2 hlt2)
          all_goals
            go_wp2_with fail
            go_roundw
            case rel => exact ⟨k + 1, by omega, by go_num, Lib.hid FI.out.1, Lib.hid FI.out.2⟩
            case measure => simp [intOf]; omega
        · have e1 : decide (0 < k) = false := by simpa using hk0
          have e1' : decide (0 < (k : Int)) = false := by simpa using hk0
          clear hs hn hf ht hq hrow hbel hcond
          go_wp2_with fail
          go_region_law (refine step_append_lies _ rfl (.tmp 68) (.tmp 76) 34 rfl (w.heap.size + 1) 52 i0 _ 3 24 Try.underlying34 hi hz0 hz1 hz2 rfl (by decide) (.slice pa n pc) n (pcells (Em.split c a k)) (by simp [Act.eval]) OWN.out ⟨wr.heap.size, 0, none⟩ 1 1 [.int .i64 (q : Int), .int .i64 (f : Int), .int .i64 1] (by simp [Act.eval]) rfl NEWS.out ONE.out (by omega) (by unfold maxLen; omega) (by omega) (by show _ ≤ (wr.alloc _).heap.size; simp; omega) (wr.heap.size + 1) (by simp) ?_; intro g cap w2 hown2 hg2 hat2 hlt2; have FI := Lib.hid (fin.out g cap w2 hown2 hg2); clear hown2 hg2 hat2 hlt2)
          all_goals
            go_wp2_with fail
            go_roundw
            case rel => exact ⟨k + 1, by omega, by go_num, Lib.hid FI.out.1, Lib.hid FI.out.2⟩
            case measure => simp [intOf]; omega
    · have hkm : k = m := by omega
      subst hkm
      have hd : decide ((k : Int) < (k : Int)) = false := by simp
      have HR := Lib.hid (hrow.out)
      obtain ⟨pa, pc, hv⟩ : ∃ a' c', u9 = .slice a' (Em.split c a k).length c' := by
        rcases hrow.out.2 with ⟨h, h0⟩ | ⟨g, cap, cur, h, _⟩
        · exact ⟨none, 0, by rw [h, h0]⟩
        · exact ⟨_, _, h⟩
      have HB2 := Lib.hid (HB.out.trans (hbel.out.mono (Nat.le_succ _)))
      clear hrow hbel
      go_wp2_with fail
      go_ret2
      exact ⟨_, rfl, own_from (own_zero HR.out) (fun r h => by have := (own_ge HR.out r h).1; omega), HB2.out⟩
end Geo
end Go.Proofs.Ytkjlcjiegoillaa
