/- Part 16 of the contracts and of the plain mathematics that the proof of the law rests on: TabPage, TabPage2, TabDrop. -/
import Derived.Test.YtbmabcddciibfaaGreatWr03
import Derived.Test.YtbmabcddciibfaaGreatWr06
import Derived.Test.YtbmabcddciibfaaGreatWr07
import Derived.Test.YtbmabcddciibfaaGreatWr08
import Derived.Lib.Agree
import Derived.LoopTactic
import Derived.Laws.CopyOwn
import Derived.WalkSpells
namespace Go.Proofs.YtbmabcddciibfaaGreat
namespace Tb
open Go.RowKit Dsk Go.Maps
set_option linter.unusedVariables false
set_option maxRecDepth 100000
theorem mul64_13 (w : World) : Calls Tryz.prog 204 #[.int .u64 1, .int .u64 13] w fun e w' => e = .returned (.tuple #[.int .u64 0, .int .u64 13]) ∧ w = w' := by
  have b1 : bits .and .u64 1 4294967295 = 1 := by decide
  have b2 : bits .and .u64 13 4294967295 = 13 := by decide
  have b3 : bits .and .u64 0 4294967295 = 0 := by decide
  go_enter Tryz.func204, Tryz.ntmps204
  go_wp2
  go_ret2
  exact ⟨rfl, rfl⟩
theorem mul_13 (w : World) : Calls Tryz.prog 190 #[.int .u64 1, .int .u64 13] w fun e w' => e = .returned (.tuple #[.int .u64 0, .int .u64 13]) ∧ w = w' := by
  go_enter Tryz.func190, Tryz.ntmps190
  go_wp2_with (go_at_call 204; refine (mul64_13 _).mono ?_; rintro e w' ⟨rfl, rfl⟩)
  go_ret2
  exact ⟨rfl, rfl⟩
def rp (k : Nat) : List Value := nums (List.replicate k (-1) ++ List.replicate (13 - k) 0)
theorem rp_one (k : Nat) : ∀ v ∈ nums (List.replicate k (-1 : Int)), v.oneCell' = true := ints_one _
theorem size_int : (Tryz.prog.info? 3).map (·.size) = some 1 := by kernel_rfl
theorem rp_cell {w : World} {g k : Nat} (h : w.heap[g]? = some (.cells (rp k).toArray 3 (0, 0))) (n : Nat) (hn : n ≤ k) (a : Nat) (ha : a = 0) : ∀ j v, (nums (List.replicate n (-1 : Int)))[j]? = some v → w.cell? ((⟨g, a, none⟩ : Addr).add j) = some v := by
  subst ha
  intro j v hv
  have hj : j < n := by have := (List.getElem?_eq_some_iff.1 hv).1; simpa using this
  rw [Addr.add_lit, Nat.zero_add, cell_of_row _ _ _ _ _ _ h]
  have e : (rp k)[j]? = some (.int .i64 (-1)) := by
    unfold rp
    rw [List.getElem?_map, List.getElem?_append_left (by simp; omega), List.getElem?_replicate, if_pos (by omega)]
    rfl
  rw [List.getElem?_map, List.getElem?_replicate, if_pos hj] at hv
  rw [← hv]
  simpa using e
theorem made_row {w : World} {X : Nat} (h : w.ownsRow 0 3 1 (.slice (some ⟨X, 0, none⟩) 13 13) 13 (madeCells (Value.int .i64 0).cells (13 * 1)).toList) : Hid (w.heap[X]? = some (.cells (rp 0).toArray 3 (0, 0))) := by
  rcases h.2 with ⟨h1, _⟩ | ⟨b, cap, cur, hv, _, hh, _, _, h3, h4⟩
  · cases h1
  · injection hv with hv _ hcap
    injection hv with hv
    injection hv with hv
    subst hv
    subst hcap
    have e : cur.toList = rp 0 := by
      rw [← List.take_of_length_le (l := cur.toList) (i := 13 * 1) (by simp [h3]), h4]
      exact (toList_madeCells_one (.int .i64 0) 13).trans rfl
    refine Lib.hid ?_
    rw [hh, ← e]
theorem below_same {B : Nat} {w w1 : World} (h : Below B w w1) : Below B w w1.drew := ⟨h.os, h.tape, h.output, h.size, h.block⟩
set_option maxHeartbeats 1000000 in
theorem repeat_any {w : World} {b : Nat} (hb : b < w.heap.size) (hc : w.cell? ⟨b, 0, none⟩ = some (.int .i64 (-1))) :
    Calls Tryz.prog 165 #[.slice (some ⟨b, 0, none⟩) 1 1, .int .i64 13] w fun e w' => e = .returned (.slice (some ⟨w.heap.size, 0, none⟩) 13 13) ∧ w'.heap[w.heap.size]? = some (.cells (rp 13).toArray 3 (0, 0)) ∧ Below w.heap.size w w' := by
  obtain ⟨i0, hi, hz0, hz1, hz2⟩ := info_parts info_int
  have SRC : Hid (∀ w1, Below w.heap.size w w1 → ∀ j v, (nums [(-1 : Int)])[j]? = some v → w1.cell? ((⟨b, 0, none⟩ : Addr).add j) = some v) := Lib.hid fun w1 hb1 j v hv => by
    cases j with
    | zero =>
      rw [Addr.add_lit, Nat.zero_add]
      exact ((hb1.cell (p := ⟨b, 0, none⟩) hb).trans hc).trans hv
    | succ j => simp at hv
  have ONE := Lib.hid (rp_one 1)
  go_enter Tryz.func165, Tryz.ntmps165
  go_wp2_with (first
    | (go_at_call 190; refine (mul_13 _).mono ?_; rintro e w' ⟨rfl, rfl⟩)
    | (at_make; refine wpList_make_full _ rfl _ _ 31 rfl 0 3 i0 _ 1 Tryz.underlying31 hi hz0 hz1 .i64 .i64 _ _ 13 rfl rfl rfl rfl (by rw [hz2]; omega) (by unfold maxLen; omega) (Nat.zero_le _) ?_; intro w1 hr1 hg1; have B1 := Lib.hid ((Below.refl w.heap.size w).grown hg1 (Nat.le_refl _) (fun k e => by cases e)); have C1 : Hid (w1.heap[w.heap.size]? = some (.cells (rp 0).toArray 3 (0, 0))) := made_row hr1; clear hr1 hg1)
    | (refine wpList_copy_splice rfl (.tmp 31) (.tmp 32) 31 31 rfl 3 Tryz.underlying31 size_int (some ⟨w.heap.size, 0, none⟩) (some ⟨b, 0, none⟩) 13 13 1 1 rfl rfl w.heap.size 0 (rp 0) 3 C1.out (nums [(-1 : Int)]) rfl (fun _ => ⟨rfl, ⟨b, 0, none⟩, rfl, SRC.out w1 B1.out⟩) (by decide) ONE.out w.heap.size w B1.out (Nat.le_refl _) ?_; intro w2 hc2 hb2; have C2 : Hid (w2.heap[w.heap.size]? = some (.cells (rp 1).toArray 3 (0, 0))) := hc2; have B2 := Lib.hid hb2; clear hc2 hb2))
  go_loopw [8] (fun v wr => ∃ k : Nat, v = .int .i64 (k : Int) ∧ (k = 1 ∨ k = 2 ∨ k = 4 ∨ k = 8 ∨ k = 13) ∧ Hid (wr.heap[w.heap.size]? = some (.cells (rp k).toArray 3 (0, 0))) ∧ Hid (Below w.heap.size w wr)) (fun v _ => 13 - (Lib.intOf v).toNat)
  case atStart => exact ⟨1, rfl, .inl rfl, C2, B2⟩
  case round =>
    obtain ⟨k, rfl, hk, HC, HB⟩ := hrel
    clear C2 B2 C1 B1 SRC ONE hc
    rcases hk with rfl | rfl | rfl | rfl | rfl
    · have H1 := HC.out
      have HONE := Lib.hid (rp_one 1)
      have SC : Hid (∀ w1 : World, w1.heap[w.heap.size]? = some (.cells (rp 1).toArray 3 (0, 0)) → ∀ j v, (nums (List.replicate 1 (-1 : Int)))[j]? = some v → w1.cell? ((⟨w.heap.size, 0, none⟩ : Addr).add j) = some v) := Lib.hid fun w1 h1 => rp_cell h1 1 (by omega) 0 rfl
      have hw2 : IntKind.i64.wrap 2 = 2 := by decide
      have hw4 : IntKind.i64.wrap 4 = 4 := by decide
      have hw8 : IntKind.i64.wrap 8 = 8 := by decide
      have hw13 : IntKind.i64.wrap 13 = 13 := by decide
      go_wp2
      go_region_law (refine step_copy_splice rfl (.tmp 41) (.tmp 44) 31 31 rfl 3 Tryz.underlying31 size_int (some ⟨w.heap.size, 1, none⟩) (some ⟨w.heap.size, 0, none⟩) 12 12 1 13 (by simp [Act.eval, Act.put]) (by simp [Act.eval, Act.put]) w.heap.size 1 (rp 1) 3 H1 (nums (List.replicate 1 (-1 : Int))) rfl (fun _ => ⟨rfl, ⟨w.heap.size, 0, none⟩, rfl, SC.out _ H1⟩) (by decide) HONE.out w.heap.size w (below_same HB.out) (Nat.le_refl _) ?_; intro w2 hc2 hb2; have C2 : Hid (w2.heap[w.heap.size]? = some (.cells (rp 2).toArray 3 (0, 0))) := hc2; have B2 := Lib.hid hb2; clear hc2 hb2)
      all_goals
        simp only [List.getElem_toArray, List.getElem_cons_succ, List.getElem_cons_zero, Act.put, List.setIfInBounds_toArray, List.set_cons_succ, List.set_cons_zero]
        go_wp2
        go_roundw
        case rel => exact ⟨2, by go_num, by decide, C2, B2⟩
        case measure => simp [Lib.intOf]
    · have H1 := HC.out
      have HONE := Lib.hid (rp_one 2)
      have SC : Hid (∀ w1 : World, w1.heap[w.heap.size]? = some (.cells (rp 2).toArray 3 (0, 0)) → ∀ j v, (nums (List.replicate 2 (-1 : Int)))[j]? = some v → w1.cell? ((⟨w.heap.size, 0, none⟩ : Addr).add j) = some v) := Lib.hid fun w1 h1 => rp_cell h1 2 (by omega) 0 rfl
      have hw2 : IntKind.i64.wrap 2 = 2 := by decide
      have hw4 : IntKind.i64.wrap 4 = 4 := by decide
      have hw8 : IntKind.i64.wrap 8 = 8 := by decide
      have hw13 : IntKind.i64.wrap 13 = 13 := by decide
      go_wp2
      go_region_law (refine step_copy_splice rfl (.tmp 41) (.tmp 44) 31 31 rfl 3 Tryz.underlying31 size_int (some ⟨w.heap.size, 2, none⟩) (some ⟨w.heap.size, 0, none⟩) 11 11 2 13 (by simp [Act.eval, Act.put]) (by simp [Act.eval, Act.put]) w.heap.size 2 (rp 2) 3 H1 (nums (List.replicate 2 (-1 : Int))) rfl (fun _ => ⟨rfl, ⟨w.heap.size, 0, none⟩, rfl, SC.out _ H1⟩) (by decide) HONE.out w.heap.size w (below_same HB.out) (Nat.le_refl _) ?_; intro w2 hc2 hb2; have C2 : Hid (w2.heap[w.heap.size]? = some (.cells (rp 4).toArray 3 (0, 0))) := hc2; have B2 := Lib.hid hb2; clear hc2 hb2)
      all_goals
        simp only [List.getElem_toArray, List.getElem_cons_succ, List.getElem_cons_zero, Act.put, List.setIfInBounds_toArray, List.set_cons_succ, List.set_cons_zero]
        go_wp2
        go_roundw
        case rel => exact ⟨4, by go_num, by decide, C2, B2⟩
        case measure => simp [Lib.intOf]
    · have H1 := HC.out
      have HONE := Lib.hid (rp_one 4)
      have SC : Hid (∀ w1 : World, w1.heap[w.heap.size]? = some (.cells (rp 4).toArray 3 (0, 0)) → ∀ j v, (nums (List.replicate 4 (-1 : Int)))[j]? = some v → w1.cell? ((⟨w.heap.size, 0, none⟩ : Addr).add j) = some v) := Lib.hid fun w1 h1 => rp_cell h1 4 (by omega) 0 rfl
      have hw2 : IntKind.i64.wrap 2 = 2 := by decide
      have hw4 : IntKind.i64.wrap 4 = 4 := by decide
      have hw8 : IntKind.i64.wrap 8 = 8 := by decide
      have hw13 : IntKind.i64.wrap 13 = 13 := by decide
      go_wp2
      go_region_law (refine step_copy_splice rfl (.tmp 41) (.tmp 44) 31 31 rfl 3 Tryz.underlying31 size_int (some ⟨w.heap.size, 4, none⟩) (some ⟨w.heap.size, 0, none⟩) 9 9 4 13 (by simp [Act.eval, Act.put]) (by simp [Act.eval, Act.put]) w.heap.size 4 (rp 4) 3 H1 (nums (List.replicate 4 (-1 : Int))) rfl (fun _ => ⟨rfl, ⟨w.heap.size, 0, none⟩, rfl, SC.out _ H1⟩) (by decide) HONE.out w.heap.size w (below_same HB.out) (Nat.le_refl _) ?_; intro w2 hc2 hb2; have C2 : Hid (w2.heap[w.heap.size]? = some (.cells (rp 8).toArray 3 (0, 0))) := hc2; have B2 := Lib.hid hb2; clear hc2 hb2)
      all_goals
        simp only [List.getElem_toArray, List.getElem_cons_succ, List.getElem_cons_zero, Act.put, List.setIfInBounds_toArray, List.set_cons_succ, List.set_cons_zero]
        go_wp2
        go_roundw
        case rel => exact ⟨8, by go_num, by decide, C2, B2⟩
        case measure => simp [Lib.intOf]
    · have H1 := HC.out
      have HONE := Lib.hid (rp_one 5)
      have SC : Hid (∀ w1 : World, w1.heap[w.heap.size]? = some (.cells (rp 8).toArray 3 (0, 0)) → ∀ j v, (nums (List.replicate 5 (-1 : Int)))[j]? = some v → w1.cell? ((⟨w.heap.size, 0, none⟩ : Addr).add j) = some v) := Lib.hid fun w1 h1 => rp_cell h1 5 (by omega) 0 rfl
      have hw2 : IntKind.i64.wrap 2 = 2 := by decide
      have hw4 : IntKind.i64.wrap 4 = 4 := by decide
      have hw8 : IntKind.i64.wrap 8 = 8 := by decide
      have hw13 : IntKind.i64.wrap 13 = 13 := by decide
      go_wp2
      go_region_law (refine step_copy_splice rfl (.tmp 41) (.tmp 44) 31 31 rfl 3 Tryz.underlying31 size_int (some ⟨w.heap.size, 8, none⟩) (some ⟨w.heap.size, 0, none⟩) 5 5 8 13 (by simp [Act.eval, Act.put]) (by simp [Act.eval, Act.put]) w.heap.size 8 (rp 8) 3 H1 (nums (List.replicate 5 (-1 : Int))) rfl (fun _ => ⟨rfl, ⟨w.heap.size, 0, none⟩, rfl, SC.out _ H1⟩) (by decide) HONE.out w.heap.size w (below_same HB.out) (Nat.le_refl _) ?_; intro w2 hc2 hb2; have C2 : Hid (w2.heap[w.heap.size]? = some (.cells (rp 13).toArray 3 (0, 0))) := hc2; have B2 := Lib.hid hb2; clear hc2 hb2)
      all_goals
        simp only [List.getElem_toArray, List.getElem_cons_succ, List.getElem_cons_zero, Act.put, List.setIfInBounds_toArray, List.set_cons_succ, List.set_cons_zero]
        go_wp2
        go_roundw
        case rel => exact ⟨13, by go_num, by decide, C2, B2⟩
        case measure => simp [Lib.intOf]
    · go_wp2
      go_ret
      exact ⟨rfl, HC.out, HB.out⟩
end Tb
end Go.Proofs.YtbmabcddciibfaaGreat
namespace Go.Proofs.YtbmabcddciibfaaGreat
namespace Tb
open Go.RowKit Dsk Go.Maps
set_option linter.unusedVariables false
set_option maxRecDepth 100000
def pageL (m : List Int) (i : Int) : List Int := if 0 ≤ i ∧ i < (pagesN m.length : Int) then page m i.toNat else []
def pageE (m : List Int) (i : Int) : Int := if 0 ≤ i ∧ i < (pagesN m.length : Int) then 0 else 2
theorem pageL_in {m : List Int} {k : Nat} (h : k < pagesN m.length) : pageL m (k : Int) = page m k := by unfold pageL; rw [if_pos ⟨by omega, by omega⟩, Int.toNat_natCast]
theorem pageE_in {m : List Int} {k : Nat} (h : k < pagesN m.length) : pageE m (k : Int) = 0 := by unfold pageE; rw [if_pos ⟨by omega, by omega⟩]
theorem page_row (c : List Int) (k K : Nat) (hK : K = 13 * k) : splice (rp 13) 0 (nums ((c.drop K).take 13)) = nums (page c k) := by
  subst hK
  have hl : ((c.drop (13 * k)).take 13).length ≤ 13 := by simp; omega
  apply List.ext_getElem?
  intro j
  unfold splice rp
  simp only [List.take_zero, List.nil_append, Nat.zero_add, Nat.sub_self, List.replicate_zero, List.append_nil]
  by_cases hj : j < 13
  · rw [List.getElem?_map, page_get _ _ _ hj]
    by_cases hjl : j < ((c.drop (13 * k)).take 13).length
    · rw [List.getElem?_append_left (by simpa using hjl), List.getElem?_map, List.getElem?_take, if_pos hj, List.getElem?_drop]
      have : 13 * k + j < c.length := by simp at hjl; omega
      rw [List.getElem?_eq_getElem this]
      rfl
    · rw [List.getElem?_append_right (by simpa using Nat.le_of_not_lt hjl), List.getElem?_drop]
      have h1 : (nums ((c.drop (13 * k)).take 13)).length = ((c.drop (13 * k)).take 13).length := by simp
      rw [h1, show ((c.drop (13 * k)).take 13).length + (j - ((c.drop (13 * k)).take 13).length) = j by omega, List.getElem?_map, List.getElem?_replicate, if_pos hj]
      have : c[13 * k + j]? = none := List.getElem?_eq_none (by simp at hjl; omega)
      rw [this]
      rfl
  · have e1 : (nums (page c k)).length = 13 := by simp [page_length]
    rw [List.getElem?_eq_none (l := nums (page c k)) (by omega)]
    refine List.getElem?_eq_none ?_
    rw [List.length_append, List.length_drop, List.length_map, List.length_map, List.length_replicate]
    omega
theorem ints_of_cells {w : World} {g : Nat} {l : List Int} (hl : l.length = 13) (h : w.heap[g]? = some (.cells (nums l).toArray 3 (0, 0))) : Ints w (.slice (some ⟨g, 0, none⟩) 13 13) l := by
  show World.ownsRow _ _ _ _ _ _ _
  rw [hl]
  exact ⟨by simp [hl], .inr ⟨g, 13, _, rfl, Nat.zero_le _, h, Nat.le_refl _, by unfold maxLen; omega, by simp [hl], by rw [List.take_of_length_le (by simp [hl])]⟩⟩
theorem page_out {w : World} {o : Ob} {m : List Int} (h : Tm w o m) (i : Int) (hi : ¬ (0 ≤ i ∧ i < (pagesN m.length : Int))) :
    Calls Tryz.prog 140 #[.pointer (some ⟨o.p, 0, none⟩), .int .i64 i] w fun e w' => e = .returned (.tuple #[.slice none 0 0, .int .i64 2]) ∧ w = w' := by
  obtain ⟨n, c, g, ht, rfl⟩ := h
  rw [full_length ht.pr.len] at hi
  obtain ⟨h0, _, _, _, _⟩ := ht.reads
  have PG := Lib.hid (pages_any n w ht.pr.few)
  by_cases hn : i < 0
  · have d1 : decide (i < 0) = true := by simpa using hn
    clear ht hi
    go_enter Tryz.func140, Tryz.ntmps140
    go_wp2
    go_ret2
    exact ⟨rfl, rfl⟩
  · have d1 : decide (i < 0) = false := by simpa using hn
    obtain ⟨q, hq⟩ : ∃ q, q = pagesN n := ⟨_, rfl⟩
    rw [← hq] at PG hi
    have d2 : decide ((q : Int) ≤ i) = true := by simp; omega
    clear ht hi hq hn
    go_enter Tryz.func140, Tryz.ntmps140
    go_wp2_with (go_at_call 126; refine PG.out.mono ?_; rintro e w' ⟨rfl, rfl⟩)
    go_ret2
    exact ⟨rfl, rfl⟩
structure Src (c : List Int) (K : Nat) (w : World) (sp : Option Addr) (sl : Nat) : Prop where
  len : ((c.drop K).take 13).length = Nat.min sl 13
  cells : 0 < ((c.drop K).take 13).length → ∃ ad, sp = some ad ∧ ∀ j v, (nums ((c.drop K).take 13))[j]? = some v → w.cell? (ad.add j) = some v
set_option maxHeartbeats 1000000 in
theorem page_in {w : World} {o : Ob} {m : List Int} (h : Tm w o m) (k : Nat) (hk : k < pagesN m.length) :
    Calls Tryz.prog 140 #[.pointer (some ⟨o.p, 0, none⟩), .int .i64 (k : Int)] w fun e w' => ∃ g, e = .returned (.tuple #[.slice (some ⟨g, 0, none⟩) 13 13, .int .i64 0]) ∧ w'.heap[g]? = some (.cells (nums (page m k)).toArray 3 (0, 0)) ∧ w.heap.size ≤ g ∧ Below w.heap.size w w' := by
  obtain ⟨n, c, g, ht, rfl⟩ := h
  rw [full_length ht.pr.len] at hk
  rw [page_full]
  obtain ⟨h0, _, h2, _, _⟩ := ht.reads
  have hfew := ht.pr.few
  have hcl := ht.pr.len
  have PG := Lib.hid (pages_any n w hfew)
  have hkb : k ≤ 1048576 := by unfold pagesN at hk; omega
  obtain ⟨q, hq⟩ : ∃ q, q = pagesN n := ⟨_, rfl⟩
  rw [← hq] at PG hk
  have d1 : decide ((k : Int) < 0) = false := by simp
  have d2 : decide ((q : Int) ≤ (k : Int)) = false := by simp; omega
  have d3 : decide (q ≤ k) = false := by simp; omega
  obtain ⟨K, hK⟩ : ∃ K, K = 13 * k := ⟨_, rfl⟩
  have k1 : IntKind.i64.wrap ((k : Int) * 13) = (K : Int) := by rw [IntWalk.i64_in _ (by omega)]; omega
  have k2 : (k : Int) * 13 = (K : Int) := by omega
  have hKb : K ≤ 13631488 := by omega
  have hwK : IntKind.i64.wrap (K : Int) = (K : Int) := by rw [IntWalk.i64_in _ (by omega)]
  have hplt := ht.lt o.p (.inl rfl)
  have hrow := ht.chunks
  obtain ⟨ca, cap, hv⟩ := ints_slice ht.chunks
  rw [hv] at hrow
  have hlts : ∀ b, ca = some b → b.block < w.heap.size := fun b hb => ht.lt b.block (.inr (.inr (.inl (by rw [hv, hb]; rfl))))
  rw [hv] at h2
  obtain ⟨L, hL⟩ : ∃ L, L = c.length := ⟨_, rfl⟩
  rw [← hL] at h2 hcl
  have HL := Lib.hid hL
  have HKK := Lib.hid hK
  have HROW := Lib.hid hrow
  have HLT := Lib.hid hlts
  have PROW := Lib.hid (page_row c k K hK)
  have ONE := Lib.hid (ints_one ((c.drop K).take 13))
  have RE : Hid (Calls Tryz.prog 165 #[.slice (some ⟨w.heap.size, 0, none⟩) 1 1, .int .i64 13] (w.alloc (.cells #[.int .i64 (-1)] 3)) fun e w' => e = .returned (.slice (some ⟨w.heap.size + 1, 0, none⟩) 13 13) ∧ w'.heap[w.heap.size + 1]? = some (.cells (rp 13).toArray 3 (0, 0)) ∧ Below w.heap.size w w') := Lib.hid (by
    have := repeat_any (w := w.alloc (.cells #[.int .i64 (-1)] 3)) (b := w.heap.size) (by simp) (by simp)
    rw [World.size_alloc] at this
    refine this.mono ?_
    rintro e w' ⟨rfl, h1, h2⟩
    exact ⟨rfl, h1, ((Below.refl _ w).alloc (Nat.le_refl _) _).trans (h2.mono (by omega))⟩)
  clear ht hv hrow hlts hL hK hq hk
  by_cases hlt : K < L
  · -- some stand there
    have d4 : decide ((K : Int) < (L : Int)) = true := by simp; omega
    have d5 : decide ((L : Int) < (K : Int)) = false := by simp; omega
    have d6 : decide ((K : Int) ≤ (L : Int)) = true := by simp; omega
    have e1 : (K : Int) ≤ (L : Int) := by omega
    have e2 : K ≤ L := by omega
    obtain ⟨cb, hcb⟩ := ints_some HROW.out (by have := HL.out; omega)
    subst hcb
    have hLc : L ≤ cap := by
      rcases HROW.out.2 with ⟨h1, _⟩ | ⟨b', cap', cur, hv, _, _, h1, _⟩
      · cases h1
      · injection hv with _ _ hv; have := HL.out; omega
    have e3 : ¬ cap = K := by omega
    have e4 : K ≤ cap := by omega
    have LEN : Hid ((nums ((c.drop K).take 13)).length = Nat.min (L - K) 13) := Lib.hid (by rw [List.length_map, List.length_take, List.length_drop, ← HL.out]; exact Nat.min_comm _ _)
    have hmin : min (K : Int) (L : Int) = (K : Int) := by omega
    have e7 : ¬ L < K := by omega
    have SRC : Hid (∀ w2, Below w.heap.size w w2 → ∀ j v, (nums ((c.drop K).take 13))[j]? = some v → w2.cell? ((⟨cb, K, none⟩ : Addr).add j) = some v) := Lib.hid fun w2 hb j v hj => by
      have hlt1 := HLT.out ⟨cb, 0, none⟩ rfl
      rw [Addr.add_lit]
      refine (hb.cell (p := ⟨cb, K + j, none⟩) hlt1).trans ?_
      have hjl := (List.getElem?_eq_some_iff.1 hj).1
      rw [List.length_map, List.length_take, List.length_drop] at hjl
      have hh := HROW.out.cellAt (K + j) (by omega)
      rw [hh, ← hj, List.getElem?_map, List.getElem?_map, List.getElem?_take, if_pos (by omega), List.getElem?_drop]
    have BS : Hid (∀ w2, Below w.heap.size w w2 → Below w.heap.size w w2.drew) := Lib.hid fun w2 h => below_same h
    have FIT : Hid (0 + (nums ((c.drop K).take 13)).length ≤ (rp 13).length) := Lib.hid (by rw [LEN.out, Nat.zero_add]; show _ ≤ 13; exact Nat.min_le_right _ _)
    go_enter Tryz.func140, Tryz.ntmps140
    go_wp2_with (first
      | (go_at_call 126; refine PG.out.mono ?_; rintro e w' ⟨rfl, rfl⟩)
      | (go_at_call 165; refine RE.out.mono ?_; rintro e w2 ⟨rfl, hc2, hb2⟩; have HC2 := Lib.hid hc2; have HB2 := Lib.hid hb2; have c2 := (hb2.cell (p := ⟨o.p, 2, none⟩) hplt).trans h2; clear hc2 hb2))
    go_region_law (refine step_copy_splice rfl (.tmp 22) (.tmp 35) 31 31 rfl 3 Tryz.underlying31 size_int (some ⟨w.heap.size + 1, 0, none⟩) (some ⟨cb, K, none⟩) 13 13 (L - K) (cap - K) (by simp [Act.eval, Act.put]) (by simp [Act.eval, Act.put]) (w.heap.size + 1) 0 (rp 13) 3 HC2.out (nums ((c.drop K).take 13)) LEN.out (fun _ => ⟨rfl, ⟨cb, K, none⟩, rfl, SRC.out _ (BS.out _ HB2.out)⟩) FIT.out ONE.out w.heap.size w (BS.out _ HB2.out) (by omega) ?_; intro w3 hc3 hb3; have HC3 := Lib.hid hc3.out; have HB3 := Lib.hid hb3; clear hc3 hb3)
    all_goals
      go_wp2
      go_ret2
      exact ⟨w.heap.size + 1, rfl, by rw [← PROW.out]; exact HC3.out, by omega, HB3.out⟩
  · -- none stands there
    have d4 : decide ((K : Int) < (L : Int)) = false := by simp; omega
    have d5 : decide ((L : Int) ≤ (K : Int)) = true := by simp; omega
    have hmin : min (K : Int) (L : Int) = (L : Int) := by omega
    have hmin2 : (if L < K then (L : Int) else (K : Int)) = (L : Int) := by split <;> omega
    have hmin3 : (if 0 < K then (0 : Int) else (K : Int)) = 0 := by split <;> omega
    have hwL : IntKind.i64.wrap (L : Int) = (L : Int) := by rw [IntWalk.i64_in _ (by omega)]
    have PR0 : Hid (splice (rp 13) 0 [] = nums (page c k)) := Lib.hid (by
      have := PROW.out
      rwa [List.drop_of_length_le (by have := HL.out; omega), List.take_nil] at this)
    have BS : Hid (∀ w2, Below w.heap.size w w2 → Below w.heap.size w w2.drew) := Lib.hid fun w2 h => below_same h
    rcases HROW.out.2 with ⟨h1, h3⟩ | ⟨cb, cap', cur, h1, _, _, h3, _⟩
    · injection h1 with e1 e2 e3
      rw [← HL.out] at e2
      subst e1 e2 e3
      have hmin0 : min (K : Int) 0 = 0 := by omega
      clear hmin PROW ONE HKK HLT h3
      go_enter Tryz.func140, Tryz.ntmps140
      go_wp2_with (first
        | (go_at_call 126; refine PG.out.mono ?_; rintro e w' ⟨rfl, rfl⟩)
        | (go_at_call 165; refine RE.out.mono ?_; rintro e w2 ⟨rfl, hc2, hb2⟩; have HC2 := Lib.hid hc2; have HB2 := Lib.hid hb2; have c2 := (hb2.cell (p := ⟨o.p, 2, none⟩) hplt).trans h2; clear hc2 hb2))
      go_region_law (refine step_copy_splice rfl (.tmp 22) (.tmp 35) 31 31 rfl 3 Tryz.underlying31 size_int (some ⟨w.heap.size + 1, 0, none⟩) none 13 13 0 0 (by simp [Act.eval, Act.put]) (by simp [Act.eval, Act.put]) (w.heap.size + 1) 0 (rp 13) 3 HC2.out [] (by simp) (fun h => absurd h (by simp)) (by simp) (by simp) w.heap.size w (BS.out _ HB2.out) (by omega) ?_; intro w3 hc3 hb3; have HC3 := Lib.hid hc3.out; have HB3 := Lib.hid hb3; clear hc3 hb3)
      all_goals
        go_wp2
        go_ret2
        exact ⟨w.heap.size + 1, rfl, by rw [← PR0.out]; exact HC3.out, by omega, HB3.out⟩
    · injection h1 with e1 e2 e3
      subst e1 e3
      rw [← HL.out] at h3
      clear PROW ONE HKK HLT
      by_cases hcap : cap = L
      · subst hcap
        go_enter Tryz.func140, Tryz.ntmps140
        go_wp2_with (first
          | (go_at_call 126; refine PG.out.mono ?_; rintro e w' ⟨rfl, rfl⟩)
          | (go_at_call 165; refine RE.out.mono ?_; rintro e w2 ⟨rfl, hc2, hb2⟩; have HC2 := Lib.hid hc2; have HB2 := Lib.hid hb2; have c2 := (hb2.cell (p := ⟨o.p, 2, none⟩) hplt).trans h2; clear hc2 hb2))
        go_region_law (refine step_copy_splice rfl (.tmp 22) (.tmp 35) 31 31 rfl 3 Tryz.underlying31 size_int (some ⟨w.heap.size + 1, 0, none⟩) (some ⟨cb, 0, none⟩) 13 13 0 0 (by simp [Act.eval, Act.put]) (by simp [Act.eval, Act.put]) (w.heap.size + 1) 0 (rp 13) 3 HC2.out [] (by simp) (fun h => absurd h (by simp)) (by simp) (by simp) w.heap.size w (BS.out _ HB2.out) (by omega) ?_; intro w3 hc3 hb3; have HC3 := Lib.hid hc3.out; have HB3 := Lib.hid hb3; clear hc3 hb3)
        all_goals
          go_wp2
          go_ret2
          exact ⟨w.heap.size + 1, rfl, by rw [← PR0.out]; exact HC3.out, by omega, HB3.out⟩
      · have e4 : L ≤ cap := h3
        have e5 : ¬ cap = L := hcap
        go_enter Tryz.func140, Tryz.ntmps140
        go_wp2_with (first
          | (go_at_call 126; refine PG.out.mono ?_; rintro e w' ⟨rfl, rfl⟩)
          | (go_at_call 165; refine RE.out.mono ?_; rintro e w2 ⟨rfl, hc2, hb2⟩; have HC2 := Lib.hid hc2; have HB2 := Lib.hid hb2; have c2 := (hb2.cell (p := ⟨o.p, 2, none⟩) hplt).trans h2; clear hc2 hb2))
        go_region_law (refine step_copy_splice rfl (.tmp 22) (.tmp 35) 31 31 rfl 3 Tryz.underlying31 size_int (some ⟨w.heap.size + 1, 0, none⟩) (some ⟨cb, L, none⟩) 13 13 0 (cap - L) (by simp [Act.eval, Act.put]) (by simp [Act.eval, Act.put]) (w.heap.size + 1) 0 (rp 13) 3 HC2.out [] (by simp) (fun h => absurd h (by simp)) (by simp) (by simp) w.heap.size w (BS.out _ HB2.out) (by omega) ?_; intro w3 hc3 hb3; have HC3 := Lib.hid hc3.out; have HB3 := Lib.hid hb3; clear hc3 hb3)
        all_goals
          go_wp2
          go_ret2
          exact ⟨w.heap.size + 1, rfl, by rw [← PR0.out]; exact HC3.out, by omega, HB3.out⟩
end Tb
end Go.Proofs.YtbmabcddciibfaaGreat
namespace Go.Proofs.YtbmabcddciibfaaGreat
namespace Tb
open Go.RowKit Dsk Go.Maps
set_option linter.unusedVariables false
set_option maxRecDepth 100000
theorem find_full {n : Nat} {c : List Int} {k : Int} (h : find (full n c) k = none) (h0 : 0 ≤ k) : k ∉ c := fun hc => find_none.1 h h0 ((full_mem h0).2 hc)
theorem WentM.refl {w : World} {o : Ob} {m : List Int} (h : Tm w o m) : WentM o m w w := ⟨o, h, Step.refl _ _⟩
theorem WentM.below {o : Ob} {m : List Int} {w w1 w2 : World} (hb : Below w.heap.size w w1) (h : WentM o m w1 w2) : WentM o m w w2 := by
  obtain ⟨o2, hd, hs⟩ := h
  exact ⟨o2, hd, (Step.of_below hb).trans hs⟩
set_option maxHeartbeats 1000000 in
theorem put_any {w : World} {o : Ob} {m : List Int} (h : Tm w o m) (k : Int) (hk : (Lit.int .i64 k).wf = true) :
    Calls Tryz.prog 98 #[.pointer (some ⟨o.p, 0, none⟩), .int .i64 k] w fun e w' => e = .returned (.tuple #[.int .i64 (put m k).2.1, .int .i64 (put m k).2.2]) ∧ WentM o (put m k).1 w w' := by
  have HCH := Lib.hid (ischunk_any k w)
  by_cases hc : 0 ≤ k ∧ k ≤ 2147483646
  · rw [decide_eq_true hc] at HCH
    have FI := Lib.hid (find_any h k hk)
    have H := Lib.hid h
    cases hf : find m k with
    | some i =>
      rw [hf] at FI
      rw [put_has hc hf]
      clear hc hf h
      go_enter Tryz.func98, Tryz.ntmps98
      go_wp2_with (first
        | (go_at_call 127; refine HCH.out.mono ?_; rintro e w' ⟨rfl, rfl⟩)
        | (go_at_call 68; refine FI.out.mono ?_; rintro e w' ⟨rfl, rfl⟩))
      go_ret2
      exact ⟨rfl, WentM.refl H.out⟩
    | none =>
      rw [hf] at FI
      have LE := Lib.hid (left_any h)
      cases hg : gap m with
      | none =>
        have hfull := gap_none_iff.1 hg
        rw [← hfull, Nat.sub_self] at LE
        rw [put_full hc hf hg]
        clear hc hf h hg hfull
        go_enter Tryz.func98, Tryz.ntmps98
        go_wp2_with (first
          | (go_at_call 127; refine HCH.out.mono ?_; rintro e w' ⟨rfl, rfl⟩)
          | (go_at_call 68; refine FI.out.mono ?_; rintro e w' ⟨rfl, rfl⟩)
          | (go_at_call 67; refine LE.out.mono ?_; rintro e w' ⟨rfl, hb⟩; have HB := Lib.hid hb; clear hb))
        go_ret2
        exact ⟨rfl, WentM.below HB.out (WentM.refl (H.out.below HB.out))⟩
      | some i =>
        have hne : m.length ≠ (used m).length := fun e => by rw [gap_none_iff.2 e] at hg; cases hg
        have hle := used_length_le m
        obtain ⟨d, hd⟩ : ∃ d, d = m.length - (used m).length := ⟨_, rfl⟩
        have hd0 : 0 < d := by omega
        rw [← hd] at LE
        have d1 : ((d : Int) == 0) = false := by simp; omega
        have d2 : (d == 0) = false := by simp; omega
        rw [put_new hc hf hg]
        obtain ⟨n, c, g, ht, rfl⟩ := h
        have HT := Lib.hid ht
        have hkc := find_full hf hc.1
        have hnd : (used c).Nodup := by have := used_nodup ht.pr.ok; rwa [used_full] at this
        have hfew := ht.pr.few
        have hcl := ht.pr.len
        by_cases hge : g = []
        · subst hge
          have hlt : c.length < n := by
            rcases Nat.lt_or_ge c.length n with h' | h'
            · exact h'
            · have hil := gap_lt hg
              obtain ⟨⟨x, hx, hx0⟩, _⟩ := gap_some.1 hg
              rw [full_length ht.pr.len] at hil
              rw [full_left (by omega)] at hx
              have hv := ht.pr.vals hx
              have hx1 : x = -1 := by omega
              rw [hx1] at hx
              have := (ht.pr.mem (i : Int)).2 ⟨i, rfl, hx⟩
              simp at this
          have hi := ht.pr.gap_end hlt
          rw [hi] at hg
          injection hg with hg
          subst hg
          rw [full_snoc k hlt]
          have PR := Lib.hid (ht.pr.snoc hlt hc.1 hc.2 hkc)
          have HK := Lib.hid hkc
          have HN := Lib.hid hnd
          have FE : Hid (∀ w1, Below w.heap.size w w1 → Raw w1 o n c []) := Lib.hid fun w1 hb => (HT.out.below hb).raw
          obtain ⟨L, hL⟩ : ∃ L, L = c.length := ⟨_, rfl⟩
          have HL := Lib.hid hL
          have hc0 := hc.1
          have hfw : c.length ≤ 1048576 := by omega
          have HFW := Lib.hid hfw
          rw [← hL]
          clear hc hf hd hne hle hkc hnd ht hL hcl hlt hi hfw
          go_enter Tryz.func98, Tryz.ntmps98
          go_wp2_with (first
            | (go_at_call 127; refine HCH.out.mono ?_; rintro e w' ⟨rfl, rfl⟩)
            | (go_at_call 68; refine FI.out.mono ?_; rintro e w' ⟨rfl, rfl⟩)
            | (go_at_call 67; refine LE.out.mono ?_; rintro e w1 ⟨rfl, hb⟩; have HB := Lib.hid hb; clear hb; have R1 := Lib.hid (FE.out w1 HB.out); have F1 := Lib.hid (first_end R1.out); rw [← HL.out] at F1; have ST := Lib.hid (stand_end R1.out k hc0 HK.out hk HN.out HFW.out); rw [← HL.out] at ST)
            | (go_at_call 131; refine F1.out.mono ?_; rintro e w' ⟨rfl, rfl⟩)
            | (go_at_call 129; refine ST.out.mono ?_; rintro e w2 ⟨rfl, o2, hr2, hs2⟩; have R2 := Lib.hid hr2; have S2 := Lib.hid hs2; clear hr2 hs2))
          go_ret2
          exact ⟨rfl, o2, ⟨n, _, _, R2.out.tk PR.out, rfl⟩, (Step.of_below HB.out).trans S2.out⟩
        · obtain ⟨i', hi', hgi⟩ := ht.pr.gap_heap hge
          rw [hg] at hgi
          injection hgi with hgi
          subst hgi
          have hgl := ht.pr.glen
          have FE : Hid (∀ w1, Below w.heap.size w w1 → Calls Tryz.prog 131 #[.pointer (some ⟨o.p, 0, none⟩)] w1 fun e w' => e = .returned (.int .i64 (i : Int)) ∧ ∃ o' g', o'.p = o.p ∧ Step o o' w w' ∧ c[i]? = some (-1) ∧ Raw w' o' n c g' ∧ Pr n (c.set i k) g') := Lib.hid fun w1 hb => by
            have := first_gap (HT.out.below hb).raw hge HT.out.pr.heap (by omega)
            rw [hi'] at this
            refine this.mono ?_
            rintro e w' ⟨rfl, o', g', hr, hs, hp, hh⟩
            obtain ⟨e1, e2⟩ := HT.out.pr.fill hp hh hc.1 hc.2 hkc
            exact ⟨rfl, o', g', hs.p, (Step.of_below hb).trans hs, e1, hr, e2⟩
          have hil : i < c.length := by
            obtain ⟨j, hj, hcj⟩ := (ht.pr.mem _).1 (Hp.at_mem g 0 (List.length_pos_iff.2 hge))
            have := (List.getElem?_eq_some_iff.1 hcj).1
            omega
          rw [full_set k hil]
          have HK := Lib.hid hkc
          have HN := Lib.hid hnd
          have hc0 := hc.1
          have hfw : c.length ≤ 1048576 := by omega
          have HFW := Lib.hid hfw
          clear hc hf hd hne hle hkc hnd ht hcl hil hfw hi' hgl hg
          go_enter Tryz.func98, Tryz.ntmps98
          go_wp2_with (first
            | (go_at_call 127; refine HCH.out.mono ?_; rintro e w' ⟨rfl, rfl⟩)
            | (go_at_call 68; refine FI.out.mono ?_; rintro e w' ⟨rfl, rfl⟩)
            | (go_at_call 67; refine LE.out.mono ?_; rintro e w1 ⟨rfl, hb⟩; have HB := Lib.hid hb; clear hb)
            | (go_at_call 131; refine (FE.out _ HB.out).mono ?_; rintro e w2 ⟨rfl, o2, g2, hp2, hs2, hci, hr2, hpr2⟩; have S2 := Lib.hid hs2; have P2 := Lib.hid hpr2; have ST := Lib.hid (stand_in hr2 i k hci hc0 HK.out hk HN.out HFW.out); rw [hp2] at ST; clear hs2 hpr2 hci hr2 hp2)
            | (go_at_call 129; refine ST.out.mono ?_; rintro e w3 ⟨rfl, hr3, hs3⟩; have R3 := Lib.hid hr3; have S3 := Lib.hid hs3; clear hr3 hs3))
          go_ret2
          exact ⟨rfl, o2, ⟨n, _, _, R3.out.tk P2.out, rfl⟩, S2.out.trans S3.out⟩
  · rw [decide_eq_false hc] at HCH
    rw [put_arg hc]
    have H := Lib.hid h
    clear h hc
    go_enter Tryz.func98, Tryz.ntmps98
    go_wp2_with (go_at_call 127; refine HCH.out.mono ?_; rintro e w' ⟨rfl, rfl⟩)
    go_ret2
    exact ⟨rfl, WentM.refl H.out⟩
theorem Raw.freed {w w1 : World} {o : Ob} {n : Nat} {c g : List Int} (h : Raw w o n c g) {i : Nat} {b cap : Nat} (hv : o.cv = .slice (some ⟨b, 0, none⟩) c.length cap) {k : Int} (hi : c[i]? = some k) (h0 : 0 ≤ k) (hone : ∀ j : Nat, c[j]? = some k → j = i) {D : DataW Unit} (hm : MapOk D c) {x : Nat}
    (ho : w1.ownsMap Tryz.prog 3 (plainElem (H := Unit) Tryz.prog 3) o.mb x (D.del (.int .i64 k))) (ht : w.mapTurned w1 o.mb) :
    w1.cell? ⟨o.p, 2, none⟩ = some o.cv ∧ w1.cell? ⟨b, i, none⟩ = some (.int .i64 k) ∧ w1.frozen? ⟨b, i, none⟩ = false ∧ Raw (w1.setCell ⟨b, i, none⟩ (.int .i64 (-1))) o n (c.set i (-1)) g ∧ Step o o w (w1.setCell ⟨b, i, none⟩ (.int .i64 (-1))) := by
  obtain ⟨n1, n2, n3⟩ := h.p_ne
  obtain ⟨m1, m2⟩ := h.m_ne
  have hb : o.cv.ownBlock = some b := by rw [hv]; rfl
  have hbp : b ≠ o.p := fun e => n2 (by rw [hb, e])
  have hbm : b ≠ o.mb := fun e => m1 (by rw [hb, e])
  have hil := (List.getElem?_eq_some_iff.1 hi).1
  have f1 := fr_turned ht
  have hfm : ∀ y, y ≠ o.mb → w1.heap[y]? = w.heap[y]? := by
    intro y hy
    obtain ⟨es, cl, es', cl', hb', rfl⟩ := ht
    exact ChangeMaps.heap_setBlock_other hb' _ hy
  have hh : w1.heap[o.p]? = _ := (hfm _ (fun e => n1 e.symm)).trans h.head
  have hrow : Ints w1 (.slice (some ⟨b, 0, none⟩) c.length cap) c := by
    have := own_same (w' := w1) h.chunks fun y hy => hfm y (fun e => m1 (by rw [← e]; exact hy))
    rwa [hv] at this
  obtain ⟨b', e, _, hc, hf⟩ := ints_cell hrow i hil
  cases e
  have hat : Hp.at_ c i = k := by have := Hp.at_get c i hil; rw [hi] at this; injection this with this; exact this.symm
  rw [hat] at hc
  obtain ⟨r1, f2⟩ := ints_set hrow i (-1)
  have hset : ∀ y, y ≠ b → (w1.setCell ⟨b, i, none⟩ (.int .i64 (-1))).heap[y]? = w1.heap[y]? := fun y hy => Below.heap_setCell _ _ _ _ hy
  refine ⟨by rw [cell_of_row _ _ _ _ _ _ hh]; rfl, hc, hf, ⟨?_, ?_, ?_, ⟨_, map_tight (map_same ho (hset o.mb (fun e => hbm e.symm))), hm.del h0 hi hone⟩, h.apart⟩, ?_, fun y hy => .inl hy, rfl⟩
  · rw [hset _ (fun e => hbp e.symm)]; exact hh
  · rw [hv]; show World.ownsRow _ _ _ _ _ _ _; simpa using r1
  · exact own_same h.gaps fun y hy => (hset y (fun e => h.apart b hb (by rw [← e]; exact hy))).trans (hfm y (fun e => m2 (by rw [← e]; exact hy)))
  · exact (f1.mono fun x _ e => (by rw [e]; exact .inr (.inl rfl) : o.fp x)).trans f2 (fun x _ e => (by rw [e]; exact .inr (.inr (.inl hb))))
set_option maxHeartbeats 1000000 in
theorem drop_any {w : World} {o : Ob} {m : List Int} (h : Tm w o m) (k : Int) (hk : (Lit.int .i64 k).wf = true) :
    Calls Tryz.prog 105 #[.pointer (some ⟨o.p, 0, none⟩), .int .i64 k] w fun e w' => e = .returned (.tuple #[.int .i64 (drop m k).2.1, .int .i64 (drop m k).2.2]) ∧ WentM o (drop m k).1 w w' := by
  have FI := Lib.hid (find_any h k hk)
  have H := Lib.hid h
  cases hf : find m k with
  | none =>
    rw [hf] at FI
    rw [drop_none hf]
    clear hf h
    go_enter Tryz.func105, Tryz.ntmps105
    go_wp2_with (go_at_call 68; refine FI.out.mono ?_; rintro e w' ⟨rfl, rfl⟩)
    go_ret2
    exact ⟨rfl, WentM.refl H.out⟩
  | some i =>
    rw [hf] at FI
    rw [drop_has hf]
    obtain ⟨n, c, g, ht, rfl⟩ := h
    obtain ⟨h0, hfi, _⟩ := find_some.1 hf
    have hi := full_used hfi h0
    have hil := (List.getElem?_eq_some_iff.1 hi).1
    have hone : ∀ j : Nat, c[j]? = some k → j = i := fun j hj => by
      have := ht.pr.ok.uni j i k (by rw [full_left (List.getElem?_eq_some_iff.1 hj).1]; exact hj) hfi h0
      exact this
    rw [full_set (-1) hil]
    obtain ⟨a, cap, hv⟩ := ints_slice ht.chunks
    obtain ⟨b, rfl⟩ := ints_some (a := a) (c := cap) (l := c) (by rw [← hv]; exact ht.chunks) (by omega)
    obtain ⟨D, hD, hm⟩ := ht.placeOf
    obtain ⟨_, h1, _, _, _⟩ := ht.reads
    have hgl := ht.pr.glen
    have hcl := ht.pr.len
    have hfew := ht.pr.few
    have hKEY : Hid (keyOf Tryz.prog 3 (.int .i64 k) = some (.int .i64 k)) := Lib.hid (int_key k hk)
    have HD := Lib.hid hD
    have FR : Hid (∀ w1, w1.ownsMap Tryz.prog 3 (plainElem (H := Unit) Tryz.prog 3) o.mb (Maps.size D) (D.del (.int .i64 k)) → w.mapTurned w1 o.mb →
        w1.cell? ⟨o.p, 2, none⟩ = some (.slice (some ⟨b, 0, none⟩) c.length cap) ∧ w1.cell? ⟨b, i, none⟩ = some (.int .i64 k) ∧ w1.frozen? ⟨b, i, none⟩ = false ∧
        Calls Tryz.prog 135 #[.iface 181 (.pointer (some ⟨o.p, 3, none⟩)), .iface 3 (.int .i64 (i : Int))] (w1.setCell ⟨b, i, none⟩ (.int .i64 (-1))) fun e w' => e = .returned (.tuple #[]) ∧ WentM o (full n (c.set i (-1))) w w') := Lib.hid fun w1 ho1 ht1 => by
      obtain ⟨q1, q2, q3, r, s⟩ := ht.raw.freed hv hi h0 hone hm ho1 ht1
      rw [hv] at q1
      refine ⟨q1, q2, q3, (hpush_any r.gh (i : Int) ht.pr.heap (by omega)).mono ?_⟩
      rintro e w2 ⟨rfl, g2, gv2, h2, hp2, hh2, hs2⟩
      obtain ⟨r2, s2⟩ := r.gs h2 hs2
      exact ⟨rfl, _, ⟨n, _, g2, r2.tk (ht.pr.free hi h0 hp2 hh2), rfl⟩, s.trans s2⟩
    obtain ⟨L, hL⟩ : ∃ L, L = c.length := ⟨_, rfl⟩
    rw [← hL] at hil FR
    clear hf ht hfi hi hone hv hD hm hgl hcl hfew hL
    go_enter Tryz.func105, Tryz.ntmps105
    go_wp2_with (first
      | (go_at_call 68; refine FI.out.mono ?_; rintro e w' ⟨rfl, rfl⟩)
      | (at_delete; refine wpList_delete_own _ rfl _ _ 96 3 rfl 3 int_law Tryz.underlying96 _ o.mb (Maps.size D) D rfl HD.out _ _ rfl hKEY.out ?_; intro w1 ho1 ht1; obtain ⟨q1, q2, q3, hpu⟩ := FR.out w1 ho1 ht1; have PU := Lib.hid hpu; clear ho1 ht1 hpu)
      | (go_at_call 135; refine PU.out.mono ?_; rintro e w3 ⟨rfl, hw3⟩; have W3 := Lib.hid hw3; clear hw3))
    go_ret2
    exact ⟨rfl, W3.out⟩
end Tb
end Go.Proofs.YtbmabcddciibfaaGreat
