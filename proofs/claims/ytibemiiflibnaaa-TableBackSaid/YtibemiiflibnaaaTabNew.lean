/- The contracts of New and Clone: a table in new memory. -/
import Derived.Test.YtibemiiflibnaaaTabSmall
import Derived.Test.YtibemiiflibnaaaTabLay
import Derived.Test.YtibemiiflibnaaaTabGaps
import Derived.Laws.NewBlocks
namespace Go.Proofs.Ytibemiiflibnaaa
namespace Tb
open Go.RowKit Dsk Go.Maps
set_option linter.unusedVariables false
set_option maxRecDepth 100000

/-- How many places a new table has. -/
def newN (p : Int) : Nat := if 0 ≤ p ∧ p ≤ 1048576 then p.toNat else 0
theorem newN_le (p : Int) : newN p ≤ 1048576 := by unfold newN; split <;> omega
/-- A table in new blocks alone, as the program has it. -/
def MadeK (n : Nat) (c g : List Int) (B : Nat) (w : World) (e : Ending) (w' : World) : Prop := (∃ o, e = .returned (.pointer (some ⟨o.p, 0, none⟩)) ∧ Tk w' o n c g ∧ ∀ k, o.fp k → B ≤ k) ∧ Below B w w'
theorem new_k (p : Int) (w : World) : Calls Try.prog 7 #[.int .i64 p] w fun e w' => MadeK (newN p) [] [] w.heap.size w e w' := by
  have hmm := @run_makeMap Try.prog
  have MH := Lib.hid (mayhave_any p w)
  have fin : ∀ n : Nat, n ≤ 1048576 → MadeK n [] [] w.heap.size w (.returned (.pointer (some ⟨w.heap.size + 1, 0, none⟩))) ((w.alloc (.map #[] 0)).alloc (.cells #[.int .i64 (n : Int), .map (some w.heap.size), .slice none 0 0, .slice none 0 0] 60)) := by
    intro n hn
    refine ⟨⟨⟨w.heap.size + 1, w.heap.size, .slice none 0 0, .slice none 0 0⟩, rfl, ⟨Pr.new n hn, ?_, World.ownsRow_nil _ _ _ _, World.ownsRow_nil _ _ _ _, ⟨.map [], ?_, MapOk.nil⟩, (fun k hk => by cases hk)⟩, ?_⟩, ?_⟩
    · exact (by simp : w.heap.size + 1 = (w.alloc (.map #[] 0)).heap.size) ▸ heap_alloc_new (w.alloc (.map #[] 0)) _
    · exact (World.ownsMap_made w Try.prog 3 _).alloc _
    · rintro k (hk | hk | hk | hk)
      · rw [hk]; show w.heap.size ≤ w.heap.size + 1; omega
      · rw [hk]; exact Nat.le_refl _
      · cases hk
      · cases hk
    · exact ((Below.refl _ w).alloc (Nat.le_refl _) _).alloc (by simp) _
  have FIN := Lib.hid fin
  clear fin
  by_cases hp : 0 ≤ p ∧ p ≤ 1048576
  · have d : (decide (0 ≤ p) && decide (p ≤ 1048576)) = true := by simp [hp]
    rw [d] at MH
    obtain ⟨n, rfl⟩ : ∃ n : Nat, p = (n : Int) := ⟨p.toNat, by omega⟩
    have hn : newN (n : Int) = n := by unfold newN; rw [if_pos hp, Int.toNat_natCast]
    rw [hn]
    have hb : n ≤ 1048576 := by omega
    clear d hp hn
    go_enter Try.func7, Try.ntmps7
    go_wp2_with (go_at_call 23; refine MH.out.mono ?_; rintro e w' ⟨rfl, rfl⟩)
    go_ret
    exact FIN.out n hb
  · have d : (decide (0 ≤ p) && decide (p ≤ 1048576)) = false := by
      rw [Bool.eq_false_iff]
      intro c
      rw [Bool.and_eq_true] at c
      exact hp ⟨of_decide_eq_true c.1, of_decide_eq_true c.2⟩
    rw [d] at MH
    have hn : newN p = 0 := by unfold newN; rw [if_neg hp]
    rw [hn]
    clear d hp hn
    go_enter Try.func7, Try.ntmps7
    go_wp2_with (go_at_call 23; refine MH.out.mono ?_; rintro e w' ⟨rfl, rfl⟩)
    go_ret
    exact FIN.out 0 (by omega)

theorem new_any (p : Int) (w : World) : Calls Try.prog 7 #[.int .i64 p] w fun e w' => Made (List.replicate (newN p) (-1)) w.heap.size w e w' := by
  refine (new_k p w).mono ?_
  rintro e w' ⟨⟨o, h1, h2, h3⟩, h4⟩
  exact ⟨⟨o, h1, ⟨_, _, _, h2, full_nil _⟩, h3⟩, h4⟩

theorem clone_null (w : World) : Calls Try.prog 14 #[.pointer none] w fun e w' => e = .returned (.pointer none) ∧ w = w' := by
  go_enter Try.func14, Try.ntmps14
  go_wp2
  go_ret
  exact ⟨rfl, rfl⟩

/-- A row is cloned: the same numbers, in memory of its own. -/
structure Rc (l : List Int) (w : World) (v : Value) (w' : World) : Prop where
  row : Ints w' v l
  new : ∀ k, v.ownBlock = some k → w.heap.size ≤ k
  below : Below w.heap.size w w'
theorem cchunks_any {w : World} {v : Value} {l : List Int} (h : Ints w v l) (hl : l.length ≤ 1099511627776) : Calls Try.prog 38 #[v] w fun e w' => ∃ v', e = .returned v' ∧ Rc l w v' w' := by
  rcases h.2 with ⟨rfl, h0⟩ | ⟨b, cap, cur, rfl, _⟩
  · have hln : l = [] := List.eq_nil_of_length_eq_zero h0
    subst hln
    refine (clone_ints_nil 0 0 w).mono ?_
    rintro e w' ⟨rfl, rfl⟩
    exact ⟨_, rfl, World.ownsRow_nil _ _ _ _, (fun k hk => by cases hk), Below.refl _ _⟩
  · refine (clone_ints b 0 l.length cap l w rfl hl fun j u hj => ?_).mono ?_
    · have hjl := (List.getElem?_eq_some_iff.1 hj).1
      rw [Nat.zero_add, h.cellAt j (by simpa using hjl)]
      exact hj
    · rintro e w' ⟨v', rfl, h1, _, h3⟩
      refine ⟨v', rfl, ⟨h1.1, h1.2.imp id fun ⟨b, cap, cur, a1, a2, a3⟩ => ⟨b, cap, cur, a1, Nat.zero_le _, a3⟩⟩, fun k hk => ?_, h3⟩
      rcases h1.2 with ⟨a1, _⟩ | ⟨b', cap', cur', a1, a2, _⟩
      · rw [a1] at hk; cases hk
      · rw [a1] at hk; have hk' : b' = k := by injection hk
        omega
theorem cgaps_any {w : World} {v : Value} {l : List Int} (h : Ints w v l) (hl : l.length ≤ 1099511627776) : Calls Try.prog 39 #[v] w fun e w' => ∃ v', e = .returned v' ∧ Rc l w v' w' := by
  rcases h.2 with ⟨rfl, h0⟩ | ⟨b, cap, cur, rfl, _⟩
  · have hln : l = [] := List.eq_nil_of_length_eq_zero h0
    subst hln
    refine (clone_gaps_nil 0 0 w).mono ?_
    rintro e w' ⟨rfl, rfl⟩
    exact ⟨_, rfl, World.ownsRow_nil _ _ _ _, (fun k hk => by cases hk), Below.refl _ _⟩
  · refine (clone_gaps b 0 l.length cap l w rfl hl fun j u hj => ?_).mono ?_
    · have hjl := (List.getElem?_eq_some_iff.1 hj).1
      rw [Nat.zero_add, h.cellAt j (by simpa using hjl)]
      exact hj
    · rintro e w' ⟨v', rfl, h1, _, h3⟩
      refine ⟨v', rfl, ⟨h1.1, h1.2.imp id fun ⟨b, cap, cur, a1, a2, a3⟩ => ⟨b, cap, cur, a1, Nat.zero_le _, a3⟩⟩, fun k hk => ?_, h3⟩
      rcases h1.2 with ⟨a1, _⟩ | ⟨b', cap', cur', a1, a2, _⟩
      · rw [a1] at hk; cases hk
      · rw [a1] at hk; have hk' : b' = k := by injection hk
        omega

set_option maxHeartbeats 2000000 in
theorem clone_any {w : World} {o : Ob} {m : List Int} (h : Tm w o m) : Calls Try.prog 14 #[.pointer (some ⟨o.p, 0, none⟩)] w fun e w' => Made m w.heap.size w e w' := by
  obtain ⟨n, c, g, ht, rfl⟩ := h
  obtain ⟨h0, h1, h2, h3, _⟩ := ht.reads
  have hplt := ht.lt o.p (.inl rfl)
  have hfew := ht.pr.few
  have hcl := ht.pr.len
  have hgl := ht.pr.glen
  obtain ⟨D, hD, hm⟩ := ht.placeOf
  have CB : Hid (∀ w1, Below w.heap.size w w1 → Calls Try.prog 38 #[o.cv] w1 fun e w' => ∃ v', e = .returned v' ∧ Rc c w1 v' w') := Lib.hid fun w1 hb => cchunks_any (ht.below hb).chunks (by omega)
  have CG : Hid (∀ w1, Below w.heap.size w w1 → Calls Try.prog 39 #[o.gv] w1 fun e w' => ∃ v', e = .returned v' ∧ Rc g w1 v' w') := Lib.hid fun w1 hb => cgaps_any (ht.below hb).gaps (by omega)
  have CM : Hid (∀ w1, Below w.heap.size w w1 → Calls Try.prog 37 #[.map (some o.mb)] w1 fun e w' => e = .returned (.map (some w1.heap.size)) ∧ PlaceOf w' w1.heap.size c ∧ w1.heap.size < w'.heap.size ∧ Below w1.heap.size w1 w') := Lib.hid fun w1 hb => by
    refine (clone_map _ o.mb (Maps.size D) D w1 (map_same hD (hb.block _ hD.lt))).mono ?_
    rintro e w' ⟨rfl, a1, _, a3⟩
    exact ⟨rfl, ⟨D, a1, hm⟩, a1.lt, a3⟩
  obtain ⟨ca, cc, hcv⟩ := ints_slice ht.chunks
  obtain ⟨ga, gc, hgv⟩ := ints_slice ht.gaps
  have PR := Lib.hid ht.pr
  obtain ⟨L, hL⟩ : ∃ L, L = c.length := ⟨_, rfl⟩
  obtain ⟨G, hG⟩ : ∃ G, G = g.length := ⟨_, rfl⟩
  rw [hcv, ← hL] at h2 CB
  rw [hgv, ← hG] at h3 CG
  clear ht hD hm hcv hgv hL hG hcl hgl
  go_enter Try.func14, Try.ntmps14
  go_wp2
  go_region_held3 (fun w' => w'.cell? ⟨o.p, 0, none⟩ = some (.int .i64 (n : Int)) ∧ w'.cell? ⟨o.p, 1, none⟩ = some (.map (some o.mb)) ∧ w'.cell? ⟨o.p, 2, none⟩ = some (.slice ca L cc) ∧ w'.cell? ⟨o.p, 3, none⟩ = some (.slice ga G gc))
    (first | go_keep | (refine ⟨?_, ?_, ?_, ?_⟩ <;> assumption) | (exact ⟨(BX.out.cell (p := ⟨o.p, 0, none⟩) hplt).trans h0, (BX.out.cell (p := ⟨o.p, 1, none⟩) hplt).trans h1, (BX.out.cell (p := ⟨o.p, 2, none⟩) hplt).trans h2, (BX.out.cell (p := ⟨o.p, 3, none⟩) hplt).trans h3⟩))
    (first
      | (go_at_call 37; refine (CM.out _ (Below.refl _ _).drew).mono ?_; rintro e w1 ⟨rfl, k1, k2, k3⟩; have K1 := Lib.hid k1; have K2 := Lib.hid k2; have BX : Hid (Below w.heap.size w w1) := (Below.refl _ _).drew.trans k3; have B1 := BX; clear k1 k2 k3)
      | (go_at_call 38; refine (CB.out _ B1.out).mono ?_; rintro e w2 ⟨v2, rfl, k4⟩; obtain ⟨va, vc, hv2⟩ := ints_slice k4.row; subst hv2; have K4 := Lib.hid k4; have BX : Hid (Below w.heap.size w w2) := B1.out.trans (k4.below.mono B1.out.size); have B2 := BX; clear k4)
      | (go_at_call 39; refine (CG.out _ B2.out).mono ?_; rintro e w3 ⟨v3, rfl, k5⟩; obtain ⟨ua, uc, hv3⟩ := ints_slice k5.row; subst hv3; have K5 := Lib.hid k5; have BX : Hid (Below w.heap.size w w3) := B2.out.trans (k5.below.mono B2.out.size); have B3 := BX; clear k5))
  go_wp2
  go_ret
  have s1 : w.heap.size < w1.heap.size := K2.out
  have s2 : w1.heap.size ≤ w2.heap.size := K4.out.below.size
  have s3 : w2.heap.size ≤ w3.heap.size := K5.out.below.size
  have K1' : PlaceOf w1 w.heap.size c := K1.out
  have new3 : ∀ j, j < w3.heap.size → ∀ X, (w3.alloc X).heap[j]? = w3.heap[j]? := fun j hj X => Below.heap_alloc _ _ _ hj
  have blk : ∀ {W : World} {v : Value} {l : List Int} {j : Nat}, Ints W v l → v.ownBlock = some j → j < W.heap.size := fun hr hj => by
    obtain ⟨cur, hcc⟩ := own_block hr _ hj; exact lt_of_heap hcc
  refine ⟨⟨⟨w3.heap.size, w.heap.size, .slice va c.length vc, .slice ua g.length uc⟩, rfl, ⟨n, c, g, ⟨PR.out, heap_alloc_new w3 _, ?_, ?_, ?_, ?_⟩, rfl⟩, ?_⟩, B3.out.alloc (by omega) _⟩
  · refine own_same K4.out.row fun j hj => ?_
    have hj2 := blk K4.out.row hj
    exact (new3 j (by omega) _).trans (K5.out.below.block j hj2)
  · exact own_same K5.out.row fun j hj => new3 j (blk K5.out.row hj) _
  · exact K1'.same ((new3 _ (by omega) _).trans ((K5.out.below.block _ (by omega)).trans (K4.out.below.block _ s1)))
  · intro j hj hj'
    have h1 := blk K4.out.row hj
    have h2 := K5.out.new j hj'
    omega
  · rintro k (hk | hk | hk | hk)
    · rw [hk]; show w.heap.size ≤ w3.heap.size; omega
    · rw [hk]; exact Nat.le_refl _
    · have := K4.out.new k hk; omega
    · have := K5.out.new k hk; omega
end Tb
end Go.Proofs.Ytibemiiflibnaaa
