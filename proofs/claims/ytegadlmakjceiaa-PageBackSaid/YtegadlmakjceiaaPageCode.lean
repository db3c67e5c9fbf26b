/- Contracts of page's mayStand, sizes and read. -/
import Derived.Test.YtegadlmakjceiaaPageMath
import Derived.Laws.Rows
import Derived.Laws.Tables
import Derived.Laws.ResultCell
import Derived.Outline
namespace Go.Proofs.Ytegadlmakjceiaa
open Go.RowKit
set_option linter.unusedVariables false

theorem may_any (x : Int) (w : World) : Calls Try.prog 12 #[.int .i64 x] w fun e w' => e = .returned (.bool (Pm.okC x)) ∧ w = w' := by
  unfold Pm.okC
  by_cases h1 : -1 ≤ x
  · have d1 : decide (-1 ≤ x) = true := by simpa using h1
    rw [d1, Bool.true_and]
    clear h1
    obtain ⟨b, hb⟩ : ∃ b, decide (x ≤ 2147483646) = b := ⟨_, rfl⟩
    rw [hb]
    go_enter Try.func12, Try.ntmps12
    go_wp2
    go_ret
    exact ⟨rfl, rfl⟩
  · have d1 : decide (-1 ≤ x) = false := by simpa using h1
    rw [d1, Bool.false_and]
    clear h1
    go_enter Try.func12, Try.ntmps12
    go_wp2
    go_ret
    exact ⟨rfl, rfl⟩

theorem info_int : (Try.prog.info? 3).map (fun i => (i.zero, i.size, i.bytes)) = some (some (.int .i64 0), 1, 8) := by kernel_rfl
/-- Sizes behind k rounds. -/
def fours (k : Nat) : List Value := List.replicate k (.int .i64 4) ++ List.replicate (14 - k) (.int .i64 0)
theorem fours_at (k : Nat) (h : k < 14) : (fours k)[k]? = some (.int .i64 0) := by
  unfold fours
  rw [List.getElem?_append_right (by simp), List.getElem?_replicate, if_pos (by simp; omega)]
theorem fours_succ (k : Nat) (h : k < 14) : (fours k).set k (.int .i64 4) = fours (k + 1) := by
  have : ∀ k : Fin 14, (fours k.val).set k.val (.int .i64 4) = fours (k.val + 1) := by
    intro k
    unfold fours
    obtain ⟨m, hm⟩ : ∃ m, 14 - k.val = m + 1 := ⟨14 - k.val - 1, by omega⟩
    have hm' : 14 - (k.val + 1) = m := by omega
    rw [hm, hm', List.set_append_right _ _ (by simp), List.replicate_succ, List.length_replicate, Nat.sub_self, List.set_cons_zero, List.replicate_succ', List.append_assoc]
    rfl
  exact this ⟨k, h⟩
theorem sizes_any (w : World) : Calls Try.prog 14 #[] w fun e w' => e = .returned (.slice (some ⟨w.heap.size, 0, none⟩) 14 14) ∧ Row w' w'.heap.size (some ⟨w.heap.size, 0, none⟩) 14 (szs Pm.zs) ∧ Below w.heap.size w w' := by
  obtain ⟨i0, hi, hz0, hz1, hz2⟩ := info_parts info_int
  go_enter Try.func14, Try.ntmps14
  go_wp2_with (refine wpList_make_full _ rfl _ _ 23 rfl w.heap.size 3 i0 (.int .i64 0) 1 Try.underlying23 hi hz0 hz1 .i64 .i64 _ _ 14 rfl rfl rfl rfl ?c1 ?c2 ?c3 ?_)
  case c1 => rw [hz2]; omega
  case c2 => unfold maxLen; omega
  case c3 => exact Nat.le_refl _
  intro w1 hown hgrow
  have hown0 : w1.ownsRow w.heap.size 3 1 (.slice (some ⟨w.heap.size, 0, none⟩) 14 14) 14 (fours 0) := by
    rw [toList_madeCells_one] at hown
    exact hown
  have hbel0 : Below w.heap.size w w1 := (Below.refl _ _).grown hgrow (Nat.le_refl _) (fun j hj => by cases hj)
  have HO0 := Lib.hid hown0
  have HB0 := Lib.hid hbel0
  clear hown hgrow hown0 hbel0
  go_wp2
  go_loopw [6] (fun i wr => ∃ j : Nat, j ≤ 14 ∧ i = .int .i64 j ∧ wr.ownsRow w.heap.size 3 1 (.slice (some ⟨w.heap.size, 0, none⟩) 14 14) 14 (fours j) ∧ Below w.heap.size w wr) (fun i _ => 14 - (intOf i).toNat)
  case atStart => exact ⟨0, Nat.zero_le _, rfl, HO0.out, HB0.out⟩
  case round =>
    obtain ⟨j, hj, rfl, hown, hbel⟩ := hrel
    by_cases hlt : j < 14
    · have hcell : wr.cell? ⟨w.heap.size, j, none⟩ = some (.int .i64 0) := by rw [hown.cellAt j (by omega), fours_at j hlt]
      have hfz := hown.frozenAt j
      have hst := hown.stored j (.int .i64 4)
      rw [fours_succ j hlt] at hst
      have HS := Lib.hid hst
      have HB := Lib.hid hbel
      clear hst hown hbel
      go_wp2
      go_roundw
      case rel => exact ⟨j + 1, by omega, by go_num, HS.out.1, HB.out.setCell (p := ⟨w.heap.size, j, none⟩) (Nat.le_refl _) _⟩
      case measure => simp [intOf]; omega
    · obtain rfl : j = 14 := by omega
      have HO := Lib.hid hown
      have HB := Lib.hid hbel
      clear hown hbel
      go_wp2
      go_ret
      refine ⟨rfl, Row.own HO.out (fun i hi => ?_), HB.out⟩
      have : ∀ i : Fin 14, (fours 14)[i.val]? = some (szs Pm.zs i.val) := by
        intro i
        unfold szs fours
        rw [Pm.zs_get i.val i.isLt, List.getElem?_append_left (by simp), List.getElem?_replicate, if_pos i.isLt]
      exact this ⟨i, hi⟩

/-- The places behind k rounds. -/
def arr (b : List UInt8) (k : Nat) : Array Value := ((List.range 13).map fun i => Value.int .i64 (if i < k then Pm.val b i else 0)).toArray
theorem arr_size (b : List UInt8) (k : Nat) : (arr b k).size = 13 := by simp [arr]
theorem arr_at (b : List UInt8) (k : Nat) (h : k < 13) : (arr b k)[k]? = some (.int .i64 0) := by simp [arr, h]
theorem arr_get (b : List UInt8) (k i : Nat) (h : i < k) (hk : k ≤ 13) : (arr b k)[i]? = some (.int .i64 (Pm.val b i)) := by
  simp [arr, show i < 13 by omega, h]
theorem arr_succ (b : List UInt8) (k : Nat) (h : k < 13) : (arr b k).setIfInBounds k (.int .i64 (Pm.val b k)) = arr b (k + 1) := by
  apply Array.ext
  · simp [arr]
  · intro i h1 h2
    rw [Array.getElem_setIfInBounds]
    by_cases e : k = i
    · subst e; simp [arr]
    · simp only [e, if_false, arr, List.getElem_toArray, List.getElem_map, List.getElem_range]
      have : (i < k) ↔ (i < k + 1) := by omega
      simp only [this]
    · simpa [arr] using h2
theorem arr_one (b : List UInt8) (k : Nat) : (arr b k).all (·.oneCell') = true := by simp [arr, Value.oneCell']
theorem arr_zero (b : List UInt8) : arr b 0 = #[.int .i64 0, .int .i64 0, .int .i64 0, .int .i64 0, .int .i64 0, .int .i64 0, .int .i64 0, .int .i64 0, .int .i64 0, .int .i64 0, .int .i64 0, .int .i64 0, .int .i64 0] := by
  unfold arr
  rfl
theorem results_arr {fn : Func} {p u : Tmp} (h : fn.results = #[.cell p 47, .tmp u]) (tmps : Array Value) (w : World) (g : Nat) (cs : Array Value) (v : Value)
    (hp : tmps.getD p undef = .pointer (some ⟨g, 0, none⟩)) (hu : tmps.getD u undef = v) (hg : w.heap[g]? = some (.cells cs 47 (0, 0))) (hs : cs.size = 13) :
    (results fn tmps).run Try.prog w = .ok (.tuple #[.agg cs, v]) w := by
  have hi : (Try.prog.info? 47).map (·.size) = some cs.size := by rw [hs]; kernel_rfl
  rw [results_cell_tmp h, hp, hu]
  simp [asAddr, run_loadVar_row w g 47 47 cs (0, 0) _ hg Try.underlying47 rfl hi, Result.andThen]

/-- What read gives: of numbers that stand at a, behind the first one. -/
def readV (b : List UInt8) : Array Value := if Pm.okL (Pm.vals b) = true then arr b 13 else arr b 0
theorem okL_vals (b : List UInt8) (h : ∀ i, i < 13 → Pm.okC (Pm.val b i) = true) : Pm.okL (Pm.vals b) = true :=
  (Pm.okL_iff _).2 ⟨Pm.vals_len b, fun i hi => by rw [Pm.vals_get b i hi]; exact h i hi⟩
theorem okL_bad (b : List UInt8) (k : Nat) (hk : k < 13) (h : Pm.okC (Pm.val b k) = false) : Pm.okL (Pm.vals b) = false :=
  Pm.okL_not _ k hk (by rw [Pm.vals_get b k hk]; exact h)

/-- Numbers as cells. -/
def pats (b : List UInt8) (i : Nat) : Value := .int .u64 ((Pm.pat b i : Nat) : Int)
set_option maxHeartbeats 400000 in
theorem pread_any (b : List UInt8) (B : Nat) (a : Option Addr) (c : Nat) (w : World) (hB : B ≤ w.heap.size) (hr : Row w B a 13 (pats b)) :
    Calls Try.prog 20 #[.slice a 13 c] w fun e w' => e = .returned (.tuple #[.agg (readV b), .bool (Pm.okL (Pm.vals b))]) ∧ Below w.heap.size w w' := by
  have hinfo : (Try.prog.info? 47).map (·.size) = some 13 := by kernel_rfl
  obtain ⟨ab, ao, rfl, hab, hac⟩ := hr (by omega)
  have HAC := Lib.hid hac
  clear hac hr
  go_enter Try.func20, Try.ntmps20
  go_wp2
  go_loopw [5] (fun i wr => ∃ k : Nat, k ≤ 13 ∧ i = .int .i64 k ∧ wr.heap[w.heap.size]? = some (.cells (arr b k) 47 (0, 0)) ∧ Below w.heap.size w wr ∧ Hid (∀ i, i < k → Pm.okC (Pm.val b i) = true)) (fun i _ => 13 - (intOf i).toNat)
  case atStart => exact ⟨0, by omega, rfl, by rw [arr_zero]; exact heap_alloc_new _ _, (Below.refl _ _).alloc (Nat.le_refl _) _, Lib.hid (fun i hi => absurd hi (by omega))⟩
  case round =>
    obtain ⟨k, hk, rfl, hrow, hbel, hall⟩ := hrel
    by_cases hlt : k < 13
    · have hpl := Pm.pat_lt b k hlt
      have hcn : wr.cell? ⟨ab, ao + k, none⟩ = some (.int .u64 ((Pm.pat b k : Nat) : Int)) := by
        rw [hbel.cell (p := ⟨ab, ao + k, none⟩) (Nat.lt_of_lt_of_le hab hB), HAC.out k hlt, pats]
      have hcell : wr.cell? ⟨w.heap.size, k, none⟩ = some (.int .i64 0) := by rw [cell_of_row _ _ _ _ _ _ hrow, arr_at b k hlt]
      have hfz := frozen_of_row wr w.heap.size k _ _ hrow
      have hnew := heap_setCell_same wr w.heap.size k _ _ (.int .i64 (Pm.val b k)) hrow
      rw [arr_succ b k hlt] at hnew
      have hbn := hbel.setCell (p := ⟨w.heap.size, k, none⟩) (Nat.le_refl _) (.int .i64 (Pm.val b k))
      have hsame := World.cell?_setCell_same wr ⟨w.heap.size, k, none⟩ (.int .i64 (Pm.val b k)) hcell
      have hval : Pm.val b k = (Pm.pat b k : Int) - 1 := rfl
      obtain ⟨z, hz⟩ : ∃ z, z = Pm.okC (Pm.val b k) := ⟨_, rfl⟩
      have C := Lib.hid (fun w1 => may_any (Pm.val b k) w1)
      rw [← hz] at C
      have HZ := Lib.hid hz
      rw [hval] at hnew hbn hsame C
      obtain ⟨x, hx⟩ : ∃ x, x = Pm.pat b k := ⟨_, rfl⟩
      rw [← hx] at hpl hcn hnew hbn hsame C
      have HN := Lib.hid hnew
      have HBN := Lib.hid hbn
      clear hnew hbn hz hx hval hrow hbel
      cases z with
      | true =>
        go_wp2_with fail
        refine (C.out _).mono ?_
        rintro e w1 ⟨rfl, rfl⟩
        go_wp2
        go_roundw
        case rel => exact ⟨k + 1, by omega, by go_num, HN.out, HBN.out, Lib.hid (fun i hi => by
          by_cases e : i = k
          · subst e; exact HZ.out.symm
          · exact hall.out i (by omega))⟩
        case measure => simp [intOf]; omega
      | false =>
        have hbad := okL_bad b k hlt HZ.out.symm
        have HBAD := Lib.hid hbad
        clear hbad
        go_wp2_with fail
        refine (C.out _).mono ?_
        rintro e w1 ⟨rfl, rfl⟩
        have hs0 := arr_size b 0
        rw [arr_zero] at hs0
        have hon := arr_one b 0
        rw [arr_zero] at hon
        go_wp2_with (first | (refine wpList_store_row rfl 47 _ _ rfl w.heap.size _ rfl rfl 47 _ HN.out hinfo (by rw [arr_size]; rfl) hon ?_))
        refine bodyPost_ret (results_arr (p := 2) (u := 3) rfl _ _ w.heap.size _ _ rfl rfl (setRow_heap _ _ _ _ _ _ HN.out) rfl) rfl ⟨?_, below_setRow HBN.out (Nat.le_refl _) _⟩
        unfold readV
        rw [HBAD.out, if_neg (by decide), arr_zero]
        rfl
    · obtain rfl : k = 13 := by omega
      have hok := okL_vals b hall.out
      have HOK := Lib.hid hok
      have HR := Lib.hid hrow
      have HB := Lib.hid hbel
      have hset := setRow_heap wr w.heap.size _ (arr b 13) _ _ hrow
      have HS := Lib.hid hset
      have hsz : (arr b 13).size = 13 := arr_size b 13
      have HSZ := Lib.hid hsz
      clear hrow hbel hok hset hsz
      go_wp2_with (first | (refine wpList_load_row rfl 47 _ rfl w.heap.size rfl 47 (arr b 13) (0, 0) _ HR.out Try.underlying47 rfl (by rw [HSZ.out]; exact hinfo) ?_) | (refine wpList_store_row rfl 47 _ _ rfl w.heap.size (arr b 13) rfl rfl 47 (arr b 13) HR.out (by rw [HSZ.out]; exact hinfo) rfl (arr_one b 13) ?_))
      refine bodyPost_ret (results_arr (p := 2) (u := 3) rfl _ _ w.heap.size _ _ rfl rfl HS.out HSZ.out) rfl ⟨?_, below_setRow HB.out (Nat.le_refl _) _⟩
      unfold readV
      rw [HOK.out, if_pos rfl]
      rfl
end Go.Proofs.Ytegadlmakjceiaa
