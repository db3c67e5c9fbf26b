/- The contract of Page: a page's numbers, in new memory. -/
import Derived.Test.YtibemiiflibnaaaTabPage
namespace Go.Proofs.Ytibemiiflibnaaa
namespace Tb
open Go.RowKit Dsk Go.Maps
set_option linter.unusedVariables false
set_option maxRecDepth 100000

/-- What Page tells. -/
def pageL (m : List Int) (i : Int) : List Int := if 0 ≤ i ∧ i < (pagesN m.length : Int) then page m i.toNat else []
def pageE (m : List Int) (i : Int) : Int := if 0 ≤ i ∧ i < (pagesN m.length : Int) then 0 else 2
theorem pageL_in {m : List Int} {k : Nat} (h : k < pagesN m.length) : pageL m (k : Int) = page m k := by unfold pageL; rw [if_pos ⟨by omega, by omega⟩, Int.toNat_natCast]
theorem pageE_in {m : List Int} {k : Nat} (h : k < pagesN m.length) : pageE m (k : Int) = 0 := by unfold pageE; rw [if_pos ⟨by omega, by omega⟩]
/-- The row behind the copy. -/
theorem page_row (c : List Int) (k K : Nat) (hK : K = 13 * k) : splice (rp 13) 0 (nums ((c.drop K).take 13)) = nums (page c k) := by
  subst hK
  have hl : ((c.drop (13 * k)).take 13).length ≤ 13 := by simp; omega
  apply List.ext_getElem?
  intro j
  unfold splice rp
  simp only [List.take_zero, List.nil_append, Nat.zero_add, Nat.sub_self, List.replicate_zero, List.append_nil]
  by_cases hj : j < 13
  · rw [List.getElem?_map, page_get _ _ _ hj]
    by_cases hjl : j < ((c.drop (13 * k)).take 13).length
    · rw [List.getElem?_append_left (by simpa using hjl), List.getElem?_map, List.getElem?_take, if_pos hj, List.getElem?_drop]
      have : 13 * k + j < c.length := by simp at hjl; omega
      rw [List.getElem?_eq_getElem this]
      rfl
    · rw [List.getElem?_append_right (by simpa using Nat.le_of_not_lt hjl), List.getElem?_drop]
      have h1 : (nums ((c.drop (13 * k)).take 13)).length = ((c.drop (13 * k)).take 13).length := by simp
      rw [h1, show ((c.drop (13 * k)).take 13).length + (j - ((c.drop (13 * k)).take 13).length) = j by omega, List.getElem?_map, List.getElem?_replicate, if_pos hj]
      have : c[13 * k + j]? = none := List.getElem?_eq_none (by simp at hjl; omega)
      rw [this]
      rfl
  · have e1 : (nums (page c k)).length = 13 := by simp [page_length]
    rw [List.getElem?_eq_none (l := nums (page c k)) (by omega)]
    refine List.getElem?_eq_none ?_
    rw [List.length_append, List.length_drop, List.length_map, List.length_map, List.length_replicate]
    omega
theorem ints_of_cells {w : World} {g : Nat} {l : List Int} (hl : l.length = 13) (h : w.heap[g]? = some (.cells (nums l).toArray 3 (0, 0))) : Ints w (.slice (some ⟨g, 0, none⟩) 13 13) l := by
  show World.ownsRow _ _ _ _ _ _ _
  rw [hl]
  exact ⟨by simp [hl], .inr ⟨g, 13, _, rfl, Nat.zero_le _, h, Nat.le_refl _, by unfold maxLen; omega, by simp [hl], by rw [List.take_of_length_le (by simp [hl])]⟩⟩

theorem page_nil (i : Int) (w : World) : Calls Try.prog 19 #[.pointer none, .int .i64 i] w fun e w' => e = .returned (.tuple #[.slice none 0 0, .int .i64 1]) ∧ w = w' := by
  go_enter Try.func19, Try.ntmps19
  go_wp2
  go_ret2
  exact ⟨rfl, rfl⟩
theorem page_out {w : World} {o : Ob} {m : List Int} (h : Tm w o m) (i : Int) (hi : ¬ (0 ≤ i ∧ i < (pagesN m.length : Int))) :
    Calls Try.prog 19 #[.pointer (some ⟨o.p, 0, none⟩), .int .i64 i] w fun e w' => e = .returned (.tuple #[.slice none 0 0, .int .i64 2]) ∧ w = w' := by
  obtain ⟨n, c, g, ht, rfl⟩ := h
  rw [full_length ht.pr.len] at hi
  obtain ⟨h0, _, _, _, _⟩ := ht.reads
  have PG := Lib.hid (pages_any n w ht.pr.few)
  by_cases hn : i < 0
  · have d1 : decide (i < 0) = true := by simpa using hn
    clear ht hi
    go_enter Try.func19, Try.ntmps19
    go_wp2
    go_ret2
    exact ⟨rfl, rfl⟩
  · have d1 : decide (i < 0) = false := by simpa using hn
    obtain ⟨q, hq⟩ : ∃ q, q = pagesN n := ⟨_, rfl⟩
    rw [← hq] at PG hi
    have d2 : decide ((q : Int) ≤ i) = true := by simp; omega
    clear ht hi hq hn
    go_enter Try.func19, Try.ntmps19
    go_wp2_with (go_at_call 30; refine PG.out.mono ?_; rintro e w' ⟨rfl, rfl⟩)
    go_ret2
    exact ⟨rfl, rfl⟩

/-- What the copy takes: its source, as the walk spells it. -/
structure Src (c : List Int) (K : Nat) (w : World) (sp : Option Addr) (sl : Nat) : Prop where
  len : ((c.drop K).take 13).length = Nat.min sl 13
  cells : 0 < ((c.drop K).take 13).length → ∃ ad, sp = some ad ∧ ∀ j v, (nums ((c.drop K).take 13))[j]? = some v → w.cell? (ad.add j) = some v

set_option maxHeartbeats 1000000 in
theorem page_in {w : World} {o : Ob} {m : List Int} (h : Tm w o m) (k : Nat) (hk : k < pagesN m.length) :
    Calls Try.prog 19 #[.pointer (some ⟨o.p, 0, none⟩), .int .i64 (k : Int)] w fun e w' => ∃ g, e = .returned (.tuple #[.slice (some ⟨g, 0, none⟩) 13 13, .int .i64 0]) ∧ w'.heap[g]? = some (.cells (nums (page m k)).toArray 3 (0, 0)) ∧ w.heap.size ≤ g ∧ Below w.heap.size w w' := by
  obtain ⟨n, c, g, ht, rfl⟩ := h
  rw [full_length ht.pr.len] at hk
  rw [page_full]
  obtain ⟨h0, _, h2, _, _⟩ := ht.reads
  have hfew := ht.pr.few
  have hcl := ht.pr.len
  have PG := Lib.hid (pages_any n w hfew)
  have hkb : k ≤ 1048576 := by unfold pagesN at hk; omega
  obtain ⟨q, hq⟩ : ∃ q, q = pagesN n := ⟨_, rfl⟩
  rw [← hq] at PG hk
  have d1 : decide ((k : Int) < 0) = false := by simp
  have d2 : decide ((q : Int) ≤ (k : Int)) = false := by simp; omega
  have d3 : decide (q ≤ k) = false := by simp; omega
  obtain ⟨K, hK⟩ : ∃ K, K = 13 * k := ⟨_, rfl⟩
  have k1 : IntKind.i64.wrap ((k : Int) * 13) = (K : Int) := by rw [IntWalk.i64_in _ (by omega)]; omega
  have k2 : (k : Int) * 13 = (K : Int) := by omega
  have hKb : K ≤ 13631488 := by omega
  have hwK : IntKind.i64.wrap (K : Int) = (K : Int) := by rw [IntWalk.i64_in _ (by omega)]
  have hplt := ht.lt o.p (.inl rfl)
  have hrow := ht.chunks
  obtain ⟨ca, cap, hv⟩ := ints_slice ht.chunks
  rw [hv] at hrow
  have hlts : ∀ b, ca = some b → b.block < w.heap.size := fun b hb => ht.lt b.block (.inr (.inr (.inl (by rw [hv, hb]; rfl))))
  rw [hv] at h2
  obtain ⟨L, hL⟩ : ∃ L, L = c.length := ⟨_, rfl⟩
  rw [← hL] at h2 hcl
  have HL := Lib.hid hL
  have HKK := Lib.hid hK
  have HROW := Lib.hid hrow
  have HLT := Lib.hid hlts
  have PROW := Lib.hid (page_row c k K hK)
  have ONE := Lib.hid (ints_one ((c.drop K).take 13))
  have RE : Hid (Calls Try.prog 42 #[.slice (some ⟨w.heap.size, 0, none⟩) 1 1, .int .i64 13] (w.alloc (.cells #[.int .i64 (-1)] 3)) fun e w' => e = .returned (.slice (some ⟨w.heap.size + 1, 0, none⟩) 13 13) ∧ w'.heap[w.heap.size + 1]? = some (.cells (rp 13).toArray 3 (0, 0)) ∧ Below w.heap.size w w') := Lib.hid (by
    have := repeat_any (w := w.alloc (.cells #[.int .i64 (-1)] 3)) (b := w.heap.size) (by simp) (by simp)
    rw [World.size_alloc] at this
    refine this.mono ?_
    rintro e w' ⟨rfl, h1, h2⟩
    exact ⟨rfl, h1, ((Below.refl _ w).alloc (Nat.le_refl _) _).trans (h2.mono (by omega))⟩)
  clear ht hv hrow hlts hL hK hq hk
  by_cases hlt : K < L
  · -- some stand there
    have d4 : decide ((K : Int) < (L : Int)) = true := by simp; omega
    have d5 : decide ((L : Int) < (K : Int)) = false := by simp; omega
    have d6 : decide ((K : Int) ≤ (L : Int)) = true := by simp; omega
    have e1 : (K : Int) ≤ (L : Int) := by omega
    have e2 : K ≤ L := by omega
    obtain ⟨cb, hcb⟩ := ints_some HROW.out (by have := HL.out; omega)
    subst hcb
    have hLc : L ≤ cap := by
      rcases HROW.out.2 with ⟨h1, _⟩ | ⟨b', cap', cur, hv, _, _, h1, _⟩
      · cases h1
      · injection hv with _ _ hv; have := HL.out; omega
    have e3 : ¬ cap = K := by omega
    have e4 : K ≤ cap := by omega
    have LEN : Hid ((nums ((c.drop K).take 13)).length = Nat.min (L - K) 13) := Lib.hid (by rw [List.length_map, List.length_take, List.length_drop, ← HL.out]; exact Nat.min_comm _ _)
    have hmin : min (K : Int) (L : Int) = (K : Int) := by omega
    have SRC : Hid (∀ w2, Below w.heap.size w w2 → ∀ j v, (nums ((c.drop K).take 13))[j]? = some v → w2.cell? ((⟨cb, K, none⟩ : Addr).add j) = some v) := Lib.hid fun w2 hb j v hj => by
      have hlt1 := HLT.out ⟨cb, 0, none⟩ rfl
      rw [Addr.add_lit]
      refine (hb.cell (p := ⟨cb, K + j, none⟩) hlt1).trans ?_
      have hjl := (List.getElem?_eq_some_iff.1 hj).1
      rw [List.length_map, List.length_take, List.length_drop] at hjl
      have hh := HROW.out.cellAt (K + j) (by omega)
      rw [hh, ← hj, List.getElem?_map, List.getElem?_map, List.getElem?_take, if_pos (by omega), List.getElem?_drop]
    have BS : Hid (∀ w2, Below w.heap.size w w2 → Below w.heap.size w w2.drew) := Lib.hid fun w2 h => below_same h
    have FIT : Hid (0 + (nums ((c.drop K).take 13)).length ≤ (rp 13).length) := Lib.hid (by rw [LEN.out, Nat.zero_add]; show _ ≤ 13; exact Nat.min_le_right _ _)
    go_enter Try.func19, Try.ntmps19
    go_wp2_with (first
      | (go_at_call 30; refine PG.out.mono ?_; rintro e w' ⟨rfl, rfl⟩)
      | (go_at_call 42; refine RE.out.mono ?_; rintro e w2 ⟨rfl, hc2, hb2⟩; have HC2 := Lib.hid hc2; have HB2 := Lib.hid hb2; have c2 := (hb2.cell (p := ⟨o.p, 2, none⟩) hplt).trans h2; clear hc2 hb2))
    go_region_law (refine step_copy_splice rfl (.tmp 22) (.tmp 35) 26 26 rfl 3 Try.underlying26 size_int (some ⟨w.heap.size + 1, 0, none⟩) (some ⟨cb, K, none⟩) 13 13 (L - K) (cap - K) (by simp [Act.eval, Act.put]) (by simp [Act.eval, Act.put]) (w.heap.size + 1) 0 (rp 13) 3 HC2.out (nums ((c.drop K).take 13)) LEN.out (fun _ => ⟨rfl, ⟨cb, K, none⟩, rfl, SRC.out _ (BS.out _ HB2.out)⟩) FIT.out ONE.out w.heap.size w (BS.out _ HB2.out) (by omega) ?_; intro w3 hc3 hb3; have HC3 := Lib.hid hc3.out; have HB3 := Lib.hid hb3; clear hc3 hb3)
    all_goals
      go_wp2
      go_ret2
      exact ⟨w.heap.size + 1, rfl, by rw [← PROW.out]; exact HC3.out, by omega, HB3.out⟩
  · -- none stands there
    have d4 : decide ((K : Int) < (L : Int)) = false := by simp; omega
    have d5 : decide ((L : Int) ≤ (K : Int)) = true := by simp; omega
    have hmin : min (K : Int) (L : Int) = (L : Int) := by omega
    have hwL : IntKind.i64.wrap (L : Int) = (L : Int) := by rw [IntWalk.i64_in _ (by omega)]
    have PR0 : Hid (splice (rp 13) 0 [] = nums (page c k)) := Lib.hid (by
      have := PROW.out
      rwa [List.drop_of_length_le (by have := HL.out; omega), List.take_nil] at this)
    have BS : Hid (∀ w2, Below w.heap.size w w2 → Below w.heap.size w w2.drew) := Lib.hid fun w2 h => below_same h
    rcases HROW.out.2 with ⟨h1, h3⟩ | ⟨cb, cap', cur, h1, _, _, h3, _⟩
    · injection h1 with e1 e2 e3
      rw [← HL.out] at e2
      subst e1 e2 e3
      have hmin0 : min (K : Int) 0 = 0 := by omega
      clear hmin PROW ONE HKK HLT h3
      go_enter Try.func19, Try.ntmps19
      go_wp2_with (first
        | (go_at_call 30; refine PG.out.mono ?_; rintro e w' ⟨rfl, rfl⟩)
        | (go_at_call 42; refine RE.out.mono ?_; rintro e w2 ⟨rfl, hc2, hb2⟩; have HC2 := Lib.hid hc2; have HB2 := Lib.hid hb2; have c2 := (hb2.cell (p := ⟨o.p, 2, none⟩) hplt).trans h2; clear hc2 hb2))
      go_region_law (refine step_copy_splice rfl (.tmp 22) (.tmp 35) 26 26 rfl 3 Try.underlying26 size_int (some ⟨w.heap.size + 1, 0, none⟩) none 13 13 0 0 (by simp [Act.eval, Act.put]) (by simp [Act.eval, Act.put]) (w.heap.size + 1) 0 (rp 13) 3 HC2.out [] (by simp) (fun h => absurd h (by simp)) (by simp) (by simp) w.heap.size w (BS.out _ HB2.out) (by omega) ?_; intro w3 hc3 hb3; have HC3 := Lib.hid hc3.out; have HB3 := Lib.hid hb3; clear hc3 hb3)
      all_goals
        go_wp2
        go_ret2
        exact ⟨w.heap.size + 1, rfl, by rw [← PR0.out]; exact HC3.out, by omega, HB3.out⟩
    · injection h1 with e1 e2 e3
      subst e1 e3
      rw [← HL.out] at h3
      clear PROW ONE HKK HLT
      by_cases hcap : cap = L
      · subst hcap
        go_enter Try.func19, Try.ntmps19
        go_wp2_with (first
          | (go_at_call 30; refine PG.out.mono ?_; rintro e w' ⟨rfl, rfl⟩)
          | (go_at_call 42; refine RE.out.mono ?_; rintro e w2 ⟨rfl, hc2, hb2⟩; have HC2 := Lib.hid hc2; have HB2 := Lib.hid hb2; have c2 := (hb2.cell (p := ⟨o.p, 2, none⟩) hplt).trans h2; clear hc2 hb2))
        go_region_law (refine step_copy_splice rfl (.tmp 22) (.tmp 35) 26 26 rfl 3 Try.underlying26 size_int (some ⟨w.heap.size + 1, 0, none⟩) (some ⟨cb, 0, none⟩) 13 13 0 0 (by simp [Act.eval, Act.put]) (by simp [Act.eval, Act.put]) (w.heap.size + 1) 0 (rp 13) 3 HC2.out [] (by simp) (fun h => absurd h (by simp)) (by simp) (by simp) w.heap.size w (BS.out _ HB2.out) (by omega) ?_; intro w3 hc3 hb3; have HC3 := Lib.hid hc3.out; have HB3 := Lib.hid hb3; clear hc3 hb3)
        all_goals
          go_wp2
          go_ret2
          exact ⟨w.heap.size + 1, rfl, by rw [← PR0.out]; exact HC3.out, by omega, HB3.out⟩
      · have e4 : L ≤ cap := h3
        have e5 : ¬ cap = L := hcap
        go_enter Try.func19, Try.ntmps19
        go_wp2_with (first
          | (go_at_call 30; refine PG.out.mono ?_; rintro e w' ⟨rfl, rfl⟩)
          | (go_at_call 42; refine RE.out.mono ?_; rintro e w2 ⟨rfl, hc2, hb2⟩; have HC2 := Lib.hid hc2; have HB2 := Lib.hid hb2; have c2 := (hb2.cell (p := ⟨o.p, 2, none⟩) hplt).trans h2; clear hc2 hb2))
        go_region_law (refine step_copy_splice rfl (.tmp 22) (.tmp 35) 26 26 rfl 3 Try.underlying26 size_int (some ⟨w.heap.size + 1, 0, none⟩) (some ⟨cb, L, none⟩) 13 13 0 (cap - L) (by simp [Act.eval, Act.put]) (by simp [Act.eval, Act.put]) (w.heap.size + 1) 0 (rp 13) 3 HC2.out [] (by simp) (fun h => absurd h (by simp)) (by simp) (by simp) w.heap.size w (BS.out _ HB2.out) (by omega) ?_; intro w3 hc3 hb3; have HC3 := Lib.hid hc3.out; have HB3 := Lib.hid hb3; clear hc3 hb3)
        all_goals
          go_wp2
          go_ret2
          exact ⟨w.heap.size + 1, rfl, by rw [← PR0.out]; exact HC3.out, by omega, HB3.out⟩
end Tb
end Go.Proofs.Ytibemiiflibnaaa
