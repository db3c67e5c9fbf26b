/- slices.Repeat of one number, and the contract of Page. -/
import Derived.Test.YtibemiiflibnaaaTabSmall
import Derived.Test.YtibemiiflibnaaaTabGaps
import Derived.Test.YtibemiiflibnaaaAppendHome
import Derived.LoopTactic
import Derived.Laws.CopyOwn
import Derived.WalkSpells
namespace Go.Proofs.Ytibemiiflibnaaa
namespace Tb
open Go.RowKit Dsk Go.Maps
set_option linter.unusedVariables false
set_option maxRecDepth 100000

theorem mul64_13 (w : World) : Calls Try.prog 54 #[.int .u64 1, .int .u64 13] w fun e w' => e = .returned (.tuple #[.int .u64 0, .int .u64 13]) ∧ w = w' := by
  have b1 : bits .and .u64 1 4294967295 = 1 := by decide
  have b2 : bits .and .u64 13 4294967295 = 13 := by decide
  have b3 : bits .and .u64 0 4294967295 = 0 := by decide
  go_enter Try.func54, Try.ntmps54
  go_wp2
  go_ret2
  exact ⟨rfl, rfl⟩
theorem mul_13 (w : World) : Calls Try.prog 48 #[.int .u64 1, .int .u64 13] w fun e w' => e = .returned (.tuple #[.int .u64 0, .int .u64 13]) ∧ w = w' := by
  go_enter Try.func48, Try.ntmps48
  go_wp2_with (go_at_call 54; refine (mul64_13 _).mono ?_; rintro e w' ⟨rfl, rfl⟩)
  go_ret2
  exact ⟨rfl, rfl⟩

/-- So many are written, the others are 0. -/
def rp (k : Nat) : List Value := nums (List.replicate k (-1) ++ List.replicate (13 - k) 0)
theorem rp_one (k : Nat) : ∀ v ∈ nums (List.replicate k (-1 : Int)), v.oneCell' = true := ints_one _
theorem size_int : (Try.prog.info? 3).map (·.size) = some 1 := by kernel_rfl
theorem rp_cell {w : World} {g k : Nat} (h : w.heap[g]? = some (.cells (rp k).toArray 3 (0, 0))) (n : Nat) (hn : n ≤ k) (a : Nat) (ha : a = 0) : ∀ j v, (nums (List.replicate n (-1 : Int)))[j]? = some v → w.cell? ((⟨g, a, none⟩ : Addr).add j) = some v := by
  subst ha
  intro j v hv
  have hj : j < n := by have := (List.getElem?_eq_some_iff.1 hv).1; simpa using this
  rw [Addr.add_lit, Nat.zero_add, cell_of_row _ _ _ _ _ _ h]
  have e : (rp k)[j]? = some (.int .i64 (-1)) := by
    unfold rp
    rw [List.getElem?_map, List.getElem?_append_left (by simp; omega), List.getElem?_replicate, if_pos (by omega)]
    rfl
  rw [List.getElem?_map, List.getElem?_replicate, if_pos hj] at hv
  rw [← hv]
  simpa using e

theorem made_row {w : World} {X : Nat} (h : w.ownsRow 0 3 1 (.slice (some ⟨X, 0, none⟩) 13 13) 13 (madeCells (Value.int .i64 0).cells (13 * 1)).toList) : Hid (w.heap[X]? = some (.cells (rp 0).toArray 3 (0, 0))) := by
  rcases h.2 with ⟨h1, _⟩ | ⟨b, cap, cur, hv, _, hh, _, _, h3, h4⟩
  · cases h1
  · injection hv with hv _ hcap
    injection hv with hv
    injection hv with hv
    subst hv
    subst hcap
    have e : cur.toList = rp 0 := by
      rw [← List.take_of_length_le (l := cur.toList) (i := 13 * 1) (by simp [h3]), h4]
      exact (toList_madeCells_one (.int .i64 0) 13).trans rfl
    refine Lib.hid ?_
    rw [hh, ← e]
theorem below_same {B : Nat} {w w1 : World} (h : Below B w w1) : Below B w w1.drew := ⟨h.os, h.tape, h.output, h.size, h.block⟩
set_option maxHeartbeats 1000000 in
theorem repeat_any {w : World} {b : Nat} (hb : b < w.heap.size) (hc : w.cell? ⟨b, 0, none⟩ = some (.int .i64 (-1))) :
    Calls Try.prog 42 #[.slice (some ⟨b, 0, none⟩) 1 1, .int .i64 13] w fun e w' => e = .returned (.slice (some ⟨w.heap.size, 0, none⟩) 13 13) ∧ w'.heap[w.heap.size]? = some (.cells (rp 13).toArray 3 (0, 0)) ∧ Below w.heap.size w w' := by
  obtain ⟨i0, hi, hz0, hz1, hz2⟩ := info_parts info_int
  have SRC : Hid (∀ w1, Below w.heap.size w w1 → ∀ j v, (nums [(-1 : Int)])[j]? = some v → w1.cell? ((⟨b, 0, none⟩ : Addr).add j) = some v) := Lib.hid fun w1 hb1 j v hv => by
    cases j with
    | zero =>
      rw [Addr.add_lit, Nat.zero_add]
      exact ((hb1.cell (p := ⟨b, 0, none⟩) hb).trans hc).trans hv
    | succ j => simp at hv
  have ONE := Lib.hid (rp_one 1)
  go_enter Try.func42, Try.ntmps42
  go_wp2_with (first
    | (go_at_call 48; refine (mul_13 _).mono ?_; rintro e w' ⟨rfl, rfl⟩)
    | (at_make; refine wpList_make_full _ rfl _ _ 26 rfl 0 3 i0 _ 1 Try.underlying26 hi hz0 hz1 .i64 .i64 _ _ 13 rfl rfl rfl rfl (by rw [hz2]; omega) (by unfold maxLen; omega) (Nat.zero_le _) ?_; intro w1 hr1 hg1; have B1 := Lib.hid ((Below.refl w.heap.size w).grown hg1 (Nat.le_refl _) (fun k e => by cases e)); have C1 : Hid (w1.heap[w.heap.size]? = some (.cells (rp 0).toArray 3 (0, 0))) := made_row hr1; clear hr1 hg1)
    | (refine wpList_copy_splice rfl (.tmp 31) (.tmp 32) 26 26 rfl 3 Try.underlying26 size_int (some ⟨w.heap.size, 0, none⟩) (some ⟨b, 0, none⟩) 13 13 1 1 rfl rfl w.heap.size 0 (rp 0) 3 C1.out (nums [(-1 : Int)]) rfl (fun _ => ⟨rfl, ⟨b, 0, none⟩, rfl, SRC.out w1 B1.out⟩) (by decide) ONE.out w.heap.size w B1.out (Nat.le_refl _) ?_; intro w2 hc2 hb2; have C2 : Hid (w2.heap[w.heap.size]? = some (.cells (rp 1).toArray 3 (0, 0))) := hc2; have B2 := Lib.hid hb2; clear hc2 hb2))
  go_loopw [8] (fun v wr => ∃ k : Nat, v = .int .i64 (k : Int) ∧ (k = 1 ∨ k = 2 ∨ k = 4 ∨ k = 8 ∨ k = 13) ∧ Hid (wr.heap[w.heap.size]? = some (.cells (rp k).toArray 3 (0, 0))) ∧ Hid (Below w.heap.size w wr)) (fun v _ => 13 - (Lib.intOf v).toNat)
  case atStart => exact ⟨1, rfl, .inl rfl, C2, B2⟩
  case round =>
    obtain ⟨k, rfl, hk, HC, HB⟩ := hrel
    clear C2 B2 C1 B1 SRC ONE hc
    rcases hk with rfl | rfl | rfl | rfl | rfl
    · have H1 := HC.out
      have HONE := Lib.hid (rp_one 1)
      have SC : Hid (∀ w1 : World, w1.heap[w.heap.size]? = some (.cells (rp 1).toArray 3 (0, 0)) → ∀ j v, (nums (List.replicate 1 (-1 : Int)))[j]? = some v → w1.cell? ((⟨w.heap.size, 0, none⟩ : Addr).add j) = some v) := Lib.hid fun w1 h1 => rp_cell h1 1 (by omega) 0 rfl
      have hw2 : IntKind.i64.wrap 2 = 2 := by decide
      have hw4 : IntKind.i64.wrap 4 = 4 := by decide
      have hw8 : IntKind.i64.wrap 8 = 8 := by decide
      have hw13 : IntKind.i64.wrap 13 = 13 := by decide
      go_wp2
      go_region_law (refine step_copy_splice rfl (.tmp 41) (.tmp 44) 26 26 rfl 3 Try.underlying26 size_int (some ⟨w.heap.size, 1, none⟩) (some ⟨w.heap.size, 0, none⟩) 12 12 1 13 (by simp [Act.eval, Act.put]) (by simp [Act.eval, Act.put]) w.heap.size 1 (rp 1) 3 H1 (nums (List.replicate 1 (-1 : Int))) rfl (fun _ => ⟨rfl, ⟨w.heap.size, 0, none⟩, rfl, SC.out _ H1⟩) (by decide) HONE.out w.heap.size w (below_same HB.out) (Nat.le_refl _) ?_; intro w2 hc2 hb2; have C2 : Hid (w2.heap[w.heap.size]? = some (.cells (rp 2).toArray 3 (0, 0))) := hc2; have B2 := Lib.hid hb2; clear hc2 hb2)
      all_goals
        simp only [List.getElem_toArray, List.getElem_cons_succ, List.getElem_cons_zero, Act.put, List.setIfInBounds_toArray, List.set_cons_succ, List.set_cons_zero]
        go_wp2
        go_roundw
        case rel => exact ⟨2, by go_num, by decide, C2, B2⟩
        case measure => simp [Lib.intOf]
    · have H1 := HC.out
      have HONE := Lib.hid (rp_one 2)
      have SC : Hid (∀ w1 : World, w1.heap[w.heap.size]? = some (.cells (rp 2).toArray 3 (0, 0)) → ∀ j v, (nums (List.replicate 2 (-1 : Int)))[j]? = some v → w1.cell? ((⟨w.heap.size, 0, none⟩ : Addr).add j) = some v) := Lib.hid fun w1 h1 => rp_cell h1 2 (by omega) 0 rfl
      have hw2 : IntKind.i64.wrap 2 = 2 := by decide
      have hw4 : IntKind.i64.wrap 4 = 4 := by decide
      have hw8 : IntKind.i64.wrap 8 = 8 := by decide
      have hw13 : IntKind.i64.wrap 13 = 13 := by decide
      go_wp2
      go_region_law (refine step_copy_splice rfl (.tmp 41) (.tmp 44) 26 26 rfl 3 Try.underlying26 size_int (some ⟨w.heap.size, 2, none⟩) (some ⟨w.heap.size, 0, none⟩) 11 11 2 13 (by simp [Act.eval, Act.put]) (by simp [Act.eval, Act.put]) w.heap.size 2 (rp 2) 3 H1 (nums (List.replicate 2 (-1 : Int))) rfl (fun _ => ⟨rfl, ⟨w.heap.size, 0, none⟩, rfl, SC.out _ H1⟩) (by decide) HONE.out w.heap.size w (below_same HB.out) (Nat.le_refl _) ?_; intro w2 hc2 hb2; have C2 : Hid (w2.heap[w.heap.size]? = some (.cells (rp 4).toArray 3 (0, 0))) := hc2; have B2 := Lib.hid hb2; clear hc2 hb2)
      all_goals
        simp only [List.getElem_toArray, List.getElem_cons_succ, List.getElem_cons_zero, Act.put, List.setIfInBounds_toArray, List.set_cons_succ, List.set_cons_zero]
        go_wp2
        go_roundw
        case rel => exact ⟨4, by go_num, by decide, C2, B2⟩
        case measure => simp [Lib.intOf]
    · have H1 := HC.out
      have HONE := Lib.hid (rp_one 4)
      have SC : Hid (∀ w1 : World, w1.heap[w.heap.size]? = some (.cells (rp 4).toArray 3 (0, 0)) → ∀ j v, (nums (List.replicate 4 (-1 : Int)))[j]? = some v → w1.cell? ((⟨w.heap.size, 0, none⟩ : Addr).add j) = some v) := Lib.hid fun w1 h1 => rp_cell h1 4 (by omega) 0 rfl
      have hw2 : IntKind.i64.wrap 2 = 2 := by decide
      have hw4 : IntKind.i64.wrap 4 = 4 := by decide
      have hw8 : IntKind.i64.wrap 8 = 8 := by decide
      have hw13 : IntKind.i64.wrap 13 = 13 := by decide
      go_wp2
      go_region_law (refine step_copy_splice rfl (.tmp 41) (.tmp 44) 26 26 rfl 3 Try.underlying26 size_int (some ⟨w.heap.size, 4, none⟩) (some ⟨w.heap.size, 0, none⟩) 9 9 4 13 (by simp [Act.eval, Act.put]) (by simp [Act.eval, Act.put]) w.heap.size 4 (rp 4) 3 H1 (nums (List.replicate 4 (-1 : Int))) rfl (fun _ => ⟨rfl, ⟨w.heap.size, 0, none⟩, rfl, SC.out _ H1⟩) (by decide) HONE.out w.heap.size w (below_same HB.out) (Nat.le_refl _) ?_; intro w2 hc2 hb2; have C2 : Hid (w2.heap[w.heap.size]? = some (.cells (rp 8).toArray 3 (0, 0))) := hc2; have B2 := Lib.hid hb2; clear hc2 hb2)
      all_goals
        simp only [List.getElem_toArray, List.getElem_cons_succ, List.getElem_cons_zero, Act.put, List.setIfInBounds_toArray, List.set_cons_succ, List.set_cons_zero]
        go_wp2
        go_roundw
        case rel => exact ⟨8, by go_num, by decide, C2, B2⟩
        case measure => simp [Lib.intOf]
    · have H1 := HC.out
      have HONE := Lib.hid (rp_one 5)
      have SC : Hid (∀ w1 : World, w1.heap[w.heap.size]? = some (.cells (rp 8).toArray 3 (0, 0)) → ∀ j v, (nums (List.replicate 5 (-1 : Int)))[j]? = some v → w1.cell? ((⟨w.heap.size, 0, none⟩ : Addr).add j) = some v) := Lib.hid fun w1 h1 => rp_cell h1 5 (by omega) 0 rfl
      have hw2 : IntKind.i64.wrap 2 = 2 := by decide
      have hw4 : IntKind.i64.wrap 4 = 4 := by decide
      have hw8 : IntKind.i64.wrap 8 = 8 := by decide
      have hw13 : IntKind.i64.wrap 13 = 13 := by decide
      go_wp2
      go_region_law (refine step_copy_splice rfl (.tmp 41) (.tmp 44) 26 26 rfl 3 Try.underlying26 size_int (some ⟨w.heap.size, 8, none⟩) (some ⟨w.heap.size, 0, none⟩) 5 5 8 13 (by simp [Act.eval, Act.put]) (by simp [Act.eval, Act.put]) w.heap.size 8 (rp 8) 3 H1 (nums (List.replicate 5 (-1 : Int))) rfl (fun _ => ⟨rfl, ⟨w.heap.size, 0, none⟩, rfl, SC.out _ H1⟩) (by decide) HONE.out w.heap.size w (below_same HB.out) (Nat.le_refl _) ?_; intro w2 hc2 hb2; have C2 : Hid (w2.heap[w.heap.size]? = some (.cells (rp 13).toArray 3 (0, 0))) := hc2; have B2 := Lib.hid hb2; clear hc2 hb2)
      all_goals
        simp only [List.getElem_toArray, List.getElem_cons_succ, List.getElem_cons_zero, Act.put, List.setIfInBounds_toArray, List.set_cons_succ, List.set_cons_zero]
        go_wp2
        go_roundw
        case rel => exact ⟨13, by go_num, by decide, C2, B2⟩
        case measure => simp [Lib.intOf]
    · go_wp2
      go_ret
      exact ⟨rfl, HC.out, HB.out⟩
end Tb
end Go.Proofs.Ytibemiiflibnaaa
