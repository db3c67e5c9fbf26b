/- Part 15 of the contracts and of the plain mathematics that the proof of the law rests on: StoSmall, LayoutOut, PageCode, PageEnc, HeadCode, HeadEnc. -/
import Derived.Test.YtbmabcddciibfaaGreatWr11
import Derived.Test.YtbmabcddciibfaaGreatWr13
import Derived.Test.YtbmabcddciibfaaGreatWr14
import Derived.Laws.Rows
import Derived.Laws.ResultCell
import Derived.Laws.OwnMore
import Derived.Laws.Pointers
import Derived.Defers
import Derived.Recover
import Derived.WalkLawsBesides
import Derived.WalkSpells
import Derived.Deep.RegionHeld3
import Derived.Deep.QuietTactic
import Derived.BigQuiet
import Derived.Outline
import Derived.Laws.Tables
namespace Go.Proofs.YtbmabcddciibfaaGreat
namespace So
open Go.RowKit
set_option maxRecDepth 100000
set_option linter.unusedVariables false
theorem need_ok (w : World) : Calls Tryz.prog 61 #[.int .i64 0] w fun e w' => e = .returned (.tuple #[]) ∧ w = w' := by
  go_enter Tryz.func61, Tryz.ntmps61
  go_wp2
  go_end0
  exact ⟨rfl, rfl⟩
theorem need_no (x : Int) (h : x ≠ 0) (w : World) : Calls Tryz.prog 61 #[.int .i64 x] w fun e w' => e = faultE x ∧ w = w' := by
  have hx : (x != 0) = true := by simpa using h
  unfold faultE
  go_enter Tryz.func61, Tryz.ntmps61
  go_wp2
  exact ⟨rfl, rfl, rfl⟩
theorem needRight_yes (w : World) : Calls Tryz.prog 93 #[.bool true] w fun e w' => e = .returned (.tuple #[]) ∧ w = w' := by
  go_enter Tryz.func93, Tryz.ntmps93
  go_wp2
  go_end0
  exact ⟨rfl, rfl⟩
theorem needRight_no (w : World) : Calls Tryz.prog 93 #[.bool false] w fun e w' => e = faultE 165 ∧ w = w' := by
  unfold faultE
  go_enter Tryz.func93, Tryz.ntmps93
  go_wp2
  exact ⟨rfl, rfl, rfl⟩
theorem mustI_ok (v : Int) (w : World) : Calls Tryz.prog 100 #[.int .i64 v, .int .i64 0] w fun e w' => e = .returned (.int .i64 v) ∧ w = w' := by
  have NE := Lib.hid (fun w1 => need_ok w1)
  go_enter Tryz.func100, Tryz.ntmps100
  go_wp2_with fail
  refine (NE.out _).mono ?_
  rintro e w1 ⟨rfl, rfl⟩
  go_wp2
  go_ret
  exact ⟨rfl, rfl⟩
theorem mustS_ok (v : Value) (w : World) : Calls Tryz.prog 55 #[v, .int .i64 0] w fun e w' => e = .returned v ∧ w = w' := by
  have NE := Lib.hid (fun w1 => need_ok w1)
  go_enter Tryz.func55, Tryz.ntmps55
  go_wp2_with fail
  refine (NE.out _).mono ?_
  rintro e w1 ⟨rfl, rfl⟩
  go_wp2
  go_ret
  exact ⟨rfl, rfl⟩
theorem mustL_ok (v : Value) (w : World) : Calls Tryz.prog 139 #[v, .int .i64 0] w fun e w' => e = .returned v ∧ w = w' := by
  have NE := Lib.hid (fun w1 => need_ok w1)
  go_enter Tryz.func139, Tryz.ntmps139
  go_wp2_with fail
  refine (NE.out _).mono ?_
  rintro e w1 ⟨rfl, rfl⟩
  go_wp2
  go_ret
  exact ⟨rfl, rfl⟩
theorem two_made (w : World) (s l : Int) (W0 : World) (h : (w.alloc (.cells #[.int .i64 s, .int .i64 l] 25)).alloc (.cells #[.int .i64 0, .int .i64 0] 25) = W0) :
    Below w.heap.size w W0 ∧ W0.cell? ⟨w.heap.size, 0, none⟩ = some (.int .i64 s) ∧ W0.cell? ⟨w.heap.size, 1, none⟩ = some (.int .i64 l) ∧ W0.heap[w.heap.size + 1]? = some (.cells #[.int .i64 0, .int .i64 0] 25 (0, 0)) ∧ W0.heap.size = w.heap.size + 2 := by
  subst h
  have h1 := heap_alloc_new w (.cells #[.int .i64 s, .int .i64 l] 25)
  have h2 := heap_alloc_new (w.alloc (.cells #[.int .i64 s, .int .i64 l] 25)) (.cells #[.int .i64 0, .int .i64 0] 25)
  have hs : (w.alloc (.cells #[.int .i64 s, .int .i64 l] 25)).heap.size = w.heap.size + 1 := by simp
  rw [hs] at h2
  have hb : Below (w.heap.size + 1) (w.alloc (.cells #[.int .i64 s, .int .i64 l] 25)) ((w.alloc (.cells #[.int .i64 s, .int .i64 l] 25)).alloc (.cells #[.int .i64 0, .int .i64 0] 25)) := (Below.refl _ _).alloc (by simp) _
  have h1' := (hb.block w.heap.size (by omega)).trans h1
  exact ⟨((Below.refl _ w).alloc (Nat.le_refl _) _).alloc (by simp) _, by rw [cell_of_row _ _ _ _ _ _ h1']; rfl, by rw [cell_of_row _ _ _ _ _ _ h1']; rfl, h2, by simp⟩
theorem results_ext1 {fn : Func} {p : Tmp} (h : fn.results = #[.cell p 25]) (tmps : Array Value) (w : World) (g : Nat) (x y : Value)
    (hp : tmps.getD p undef = .pointer (some ⟨g, 0, none⟩)) (hg : w.heap[g]? = some (.cells #[x, y] 25 (0, 0))) :
    (results fn tmps).run Tryz.prog w = .ok (.agg #[x, y]) w := by
  have hp' : tmps[p]?.getD undef = .pointer (some ⟨g, 0, none⟩) := by simpa using hp
  have c0 : w.cell? ⟨g, 0, none⟩ = some x := by rw [cell_of_row _ _ _ _ _ _ hg]; rfl
  have c1 : w.cell? ⟨g, 1, none⟩ = some y := by rw [cell_of_row _ _ _ _ _ _ hg]; rfl
  simp [results, h, hp', asAddr, Result.andThen, go_sem, c0, c1]
theorem mustE_ok (s l : Int) (w : World) : Calls Tryz.prog 101 #[.agg #[.int .i64 s, .int .i64 l], .int .i64 0] w fun e w' => e = .returned (.agg #[.int .i64 s, .int .i64 l]) ∧ Below w.heap.size w w' := by
  have NE := Lib.hid (fun w1 => need_ok w1)
  obtain ⟨W0, hW0⟩ : ∃ W0, (w.alloc (.cells #[.int .i64 s, .int .i64 l] 25)).alloc (.cells #[.int .i64 0, .int .i64 0] 25) = W0 := ⟨_, rfl⟩
  obtain ⟨hB, a0, a1, hc, hsz⟩ := two_made w s l W0 hW0
  have HB := Lib.hid hB
  have HC := Lib.hid hc
  have b0 : W0.cell? ⟨w.heap.size + 1, 0, none⟩ = some (.int .i64 0) := by rw [cell_of_row _ _ _ _ _ _ hc]; rfl
  have b1 : W0.cell? ⟨w.heap.size + 1, 1, none⟩ = some (.int .i64 0) := by rw [cell_of_row _ _ _ _ _ _ hc]; rfl
  have bf : ∀ j, W0.frozen? ⟨w.heap.size + 1, j, none⟩ = false := fun j => frozen_of_row (j := j) _ _ _ _ hc
  clear hB hc hsz
  go_enter Tryz.func101, Tryz.ntmps101
  go_wp2_with fail
  clear hW0
  refine (NE.out _).mono ?_
  rintro e w1 ⟨rfl, rfl⟩
  go_wp2_with fail
  refine bodyPost_ret (results_ext1 (p := 4) rfl _ _ (w.heap.size + 1) _ _ rfl (duo_set HC.out _ _)) rfl ⟨rfl, ?_⟩
  exact below_duo HB.out (by omega) _ _
theorem within_any (f n s l : Int) (w : World) (hf : (Lit.int .i64 f).wf = true) (hl : 0 ≤ l) (hl2 : l ≤ 9223372036854775807) : Calls Tryz.prog 53 #[.int .i64 f, .int .i64 n, .agg #[.int .i64 s, .int .i64 l]] w fun e w' => e = .returned (.bool (decide (0 ≤ f) && decide (0 ≤ n) && decide (n ≤ l - f))) ∧ Below w.heap.size w w' := by
  have hw : -9223372036854775808 ≤ f ∧ f ≤ 9223372036854775807 := by
    have hmin : IntKind.i64.min = -9223372036854775808 := rfl
    have hmax : IntKind.i64.max = 9223372036854775807 := rfl
    simp only [Lit.wf, Bool.and_eq_true, decide_eq_true_eq] at hf
    omega
  clear hf
  have HB := Lib.hid (below_new w (.cells #[.int .i64 s, .int .i64 l] 25))
  by_cases h1 : 0 ≤ f
  · have e1 : IntKind.i64.wrap (l - f) = l - f := IntWalk.i64_in _ (by omega)
    have d1 : decide (0 ≤ f) = true := decide_eq_true h1
    have d2 : decide (f ≥ 0) = true := decide_eq_true h1
    by_cases h2 : 0 ≤ n
    · have d3 : decide (0 ≤ n) = true := decide_eq_true h2
      have d4 : decide (n ≥ 0) = true := decide_eq_true h2
      rw [d1, d3, Bool.true_and, Bool.true_and]
      clear hw hl hl2
      go_enter Tryz.func53, Tryz.ntmps53
      go_wp2
      go_ret
      exact ⟨rfl, HB.out⟩
    · have d3 : decide (0 ≤ n) = false := decide_eq_false h2
      have d4 : decide (n ≥ 0) = false := decide_eq_false h2
      rw [d1, d3, Bool.true_and, Bool.false_and]
      clear hw hl hl2
      go_enter Tryz.func53, Tryz.ntmps53
      go_wp2
      go_ret
      exact ⟨rfl, HB.out⟩
  · have d1 : decide (0 ≤ f) = false := decide_eq_false h1
    have d2 : decide (f ≥ 0) = false := decide_eq_false h1
    rw [d1, Bool.false_and, Bool.false_and]
    clear hw hl hl2
    go_enter Tryz.func53, Tryz.ntmps53
    go_wp2
    go_ret
    exact ⟨rfl, HB.out⟩
theorem drew_below {w w1 : World} (h : Below w.drew.heap.size w.drew w1) : Below w.heap.size w w1 := ((Below.refl _ w).drew).trans h
end So
end Go.Proofs.YtbmabcddciibfaaGreat
namespace Go.Proofs.YtbmabcddciibfaaGreat
open Go.RowKit
set_option linter.unusedVariables false
theorem page_out (a n g p m i : Int) (r : Nat) (e : Int) (h : Um.okU a n g = true) (hr : RoomIs a n g p m r e) (hr2 : r ≤ 1048576) (hp : e = 0 → 0 ≤ p ∧ p ≤ 1048576) :
    ∃ P F : Int, (∀ w1 : World, Calls Tryz.prog 124 #[.agg #[.int .i64 a, .int .i64 n, .int .i64 g], .agg #[.int .i64 p, .int .i64 m], .int .i64 i] w1 fun x w' => x = .returned (.tuple #[.int .i64 P, .int .i64 F]) ∧ Below w1.heap.size w1 w') ∧
      (F = 0 → e = 0 ∧ 0 ≤ i ∧ i < (Em.parts r 13 : Nat) ∧ P = p + 1 + i) := by
  by_cases he : e = 0
  · subst he
    by_cases h1 : i < 0
    · exact ⟨0, 2, fun w1 => lpage_low a n g p m i r w1 hr h1, fun h => absurd h (by decide)⟩
    · by_cases h2 : i < (Em.parts r 13 : Nat)
      · exact ⟨p + 1 + i, 0, fun w1 => lpage_ok a n g p m i r w1 h hr (by omega) hr2 h2 (hp rfl).1 (hp rfl).2, fun _ => ⟨rfl, by omega, h2, rfl⟩⟩
      · exact ⟨0, 2, fun w1 => lpage_high a n g p m i r w1 h hr (by omega) hr2 (by omega), fun h => absurd h (by decide)⟩
  · exact ⟨0, e, fun w1 => lpage_err a n g p m i r e w1 hr he, fun h => absurd h he⟩
end Go.Proofs.YtbmabcddciibfaaGreat
namespace Go.Proofs.YtbmabcddciibfaaGreat
open Go.RowKit
set_option maxRecDepth 100000
set_option linter.unusedVariables false
theorem may_any (x : Int) (w : World) : Calls Tryz.prog 166 #[.int .i64 x] w fun e w' => e = .returned (.bool (Pm.okC x)) ∧ w = w' := by
  unfold Pm.okC
  by_cases h1 : -1 ≤ x
  · have d1 : decide (-1 ≤ x) = true := by simpa using h1
    rw [d1, Bool.true_and]
    clear h1
    obtain ⟨b, hb⟩ : ∃ b, decide (x ≤ 2147483646) = b := ⟨_, rfl⟩
    rw [hb]
    go_enter Tryz.func166, Tryz.ntmps166
    go_wp2
    go_ret
    exact ⟨rfl, rfl⟩
  · have d1 : decide (-1 ≤ x) = false := by simpa using h1
    rw [d1, Bool.false_and]
    clear h1
    go_enter Tryz.func166, Tryz.ntmps166
    go_wp2
    go_ret
    exact ⟨rfl, rfl⟩
theorem info_int : (Tryz.prog.info? 3).map (fun i => (i.zero, i.size, i.bytes)) = some (some (.int .i64 0), 1, 8) := by kernel_rfl
def fours (k : Nat) : List Value := List.replicate k (.int .i64 4) ++ List.replicate (14 - k) (.int .i64 0)
theorem fours_at (k : Nat) (h : k < 14) : (fours k)[k]? = some (.int .i64 0) := by
  unfold fours
  rw [List.getElem?_append_right (by simp), List.getElem?_replicate, if_pos (by simp; omega)]
theorem fours_succ (k : Nat) (h : k < 14) : (fours k).set k (.int .i64 4) = fours (k + 1) := by
  have : ∀ k : Fin 14, (fours k.val).set k.val (.int .i64 4) = fours (k.val + 1) := by
    intro k
    unfold fours
    obtain ⟨m, hm⟩ : ∃ m, 14 - k.val = m + 1 := ⟨14 - k.val - 1, by omega⟩
    have hm' : 14 - (k.val + 1) = m := by omega
    rw [hm, hm', List.set_append_right _ _ (by simp), List.replicate_succ, List.length_replicate, Nat.sub_self, List.set_cons_zero, List.replicate_succ', List.append_assoc]
    rfl
  exact this ⟨k, h⟩
theorem sizes_any (w : World) : Calls Tryz.prog 150 #[] w fun e w' => e = .returned (.slice (some ⟨w.heap.size, 0, none⟩) 14 14) ∧ Row w' w'.heap.size (some ⟨w.heap.size, 0, none⟩) 14 (szs Pm.zs) ∧ Below w.heap.size w w' := by
  obtain ⟨i0, hi, hz0, hz1, hz2⟩ := info_parts info_int
  go_enter Tryz.func150, Tryz.ntmps150
  go_wp2_with (refine wpList_make_full _ rfl _ _ 31 rfl w.heap.size 3 i0 (.int .i64 0) 1 Tryz.underlying31 hi hz0 hz1 .i64 .i64 _ _ 14 rfl rfl rfl rfl ?c1 ?c2 ?c3 ?_)
  case c1 => rw [hz2]; omega
  case c2 => unfold maxLen; omega
  case c3 => exact Nat.le_refl _
  intro w1 hown hgrow
  have hown0 : w1.ownsRow w.heap.size 3 1 (.slice (some ⟨w.heap.size, 0, none⟩) 14 14) 14 (fours 0) := by
    rw [toList_madeCells_one] at hown
    exact hown
  have hbel0 : Below w.heap.size w w1 := (Below.refl _ _).grown hgrow (Nat.le_refl _) (fun j hj => by cases hj)
  have HO0 := Lib.hid hown0
  have HB0 := Lib.hid hbel0
  clear hown hgrow hown0 hbel0
  go_wp2
  go_loopw [6] (fun i wr => ∃ j : Nat, j ≤ 14 ∧ i = .int .i64 j ∧ wr.ownsRow w.heap.size 3 1 (.slice (some ⟨w.heap.size, 0, none⟩) 14 14) 14 (fours j) ∧ Below w.heap.size w wr) (fun i _ => 14 - (Go.RowKit.intOf i).toNat)
  case atStart => exact ⟨0, Nat.zero_le _, rfl, HO0.out, HB0.out⟩
  case round =>
    obtain ⟨j, hj, rfl, hown, hbel⟩ := hrel
    by_cases hlt : j < 14
    · have hcell : wr.cell? ⟨w.heap.size, j, none⟩ = some (.int .i64 0) := by rw [hown.cellAt j (by omega), fours_at j hlt]
      have hfz := hown.frozenAt j
      have hst := hown.stored j (.int .i64 4)
      rw [fours_succ j hlt] at hst
      have HS := Lib.hid hst
      have HB := Lib.hid hbel
      clear hst hown hbel
      go_wp2
      go_roundw
      case rel => exact ⟨j + 1, by omega, by go_num, HS.out.1, HB.out.setCell (p := ⟨w.heap.size, j, none⟩) (Nat.le_refl _) _⟩
      case measure => simp [Go.RowKit.intOf]; omega
    · obtain rfl : j = 14 := by omega
      have HO := Lib.hid hown
      have HB := Lib.hid hbel
      clear hown hbel
      go_wp2
      go_ret
      refine ⟨rfl, Row.own HO.out (fun i hi => ?_), HB.out⟩
      have : ∀ i : Fin 14, (fours 14)[i.val]? = some (szs Pm.zs i.val) := by
        intro i
        unfold szs fours
        rw [Pm.zs_get i.val i.isLt, List.getElem?_append_left (by simp), List.getElem?_replicate, if_pos i.isLt]
      exact this ⟨i, hi⟩
def arr (b : List UInt8) (k : Nat) : Array Value := ((List.range 13).map fun i => Value.int .i64 (if i < k then Pm.val b i else 0)).toArray
theorem arr_size (b : List UInt8) (k : Nat) : (arr b k).size = 13 := by simp [arr]
theorem arr_at (b : List UInt8) (k : Nat) (h : k < 13) : (arr b k)[k]? = some (.int .i64 0) := by simp [arr, h]
theorem arr_get (b : List UInt8) (k i : Nat) (h : i < k) (hk : k ≤ 13) : (arr b k)[i]? = some (.int .i64 (Pm.val b i)) := by
  simp [arr, show i < 13 by omega, h]
theorem arr_succ (b : List UInt8) (k : Nat) (h : k < 13) : (arr b k).setIfInBounds k (.int .i64 (Pm.val b k)) = arr b (k + 1) := by
  apply Array.ext
  · simp [arr]
  · intro i h1 h2
    rw [Array.getElem_setIfInBounds]
    by_cases e : k = i
    · subst e; simp [arr]
    · simp only [e, if_false, arr, List.getElem_toArray, List.getElem_map, List.getElem_range]
      have : (i < k) ↔ (i < k + 1) := by omega
      simp only [this]
    · simpa [arr] using h2
theorem arr_one (b : List UInt8) (k : Nat) : (arr b k).all (·.oneCell') = true := by simp [arr, Value.oneCell']
theorem arr_zero (b : List UInt8) : arr b 0 = #[.int .i64 0, .int .i64 0, .int .i64 0, .int .i64 0, .int .i64 0, .int .i64 0, .int .i64 0, .int .i64 0, .int .i64 0, .int .i64 0, .int .i64 0, .int .i64 0, .int .i64 0] := by
  unfold arr
  rfl
theorem results_arr {fn : Func} {p u : Tmp} (h : fn.results = #[.cell p 195, .tmp u]) (tmps : Array Value) (w : World) (g : Nat) (cs : Array Value) (v : Value)
    (hp : tmps.getD p undef = .pointer (some ⟨g, 0, none⟩)) (hu : tmps.getD u undef = v) (hg : w.heap[g]? = some (.cells cs 195 (0, 0))) (hs : cs.size = 13) :
    (results fn tmps).run Tryz.prog w = .ok (.tuple #[.agg cs, v]) w := by
  have hi : (Tryz.prog.info? 195).map (·.size) = some cs.size := by rw [hs]; kernel_rfl
  rw [results_cell_tmp h, hp, hu]
  simp [asAddr, run_loadVar_row w g 195 195 cs (0, 0) _ hg Tryz.underlying195 rfl hi, Result.andThen]
def readV (b : List UInt8) : Array Value := if Pm.okL (Pm.vals b) = true then arr b 13 else arr b 0
theorem okL_vals (b : List UInt8) (h : ∀ i, i < 13 → Pm.okC (Pm.val b i) = true) : Pm.okL (Pm.vals b) = true :=
  (Pm.okL_iff _).2 ⟨Pm.vals_len b, fun i hi => by rw [Pm.vals_get b i hi]; exact h i hi⟩
theorem okL_bad (b : List UInt8) (k : Nat) (hk : k < 13) (h : Pm.okC (Pm.val b k) = false) : Pm.okL (Pm.vals b) = false :=
  Pm.okL_not _ k hk (by rw [Pm.vals_get b k hk]; exact h)
def pats (b : List UInt8) (i : Nat) : Value := .int .u64 ((Pm.pat b i : Nat) : Int)
set_option maxHeartbeats 400000 in
theorem pread_any (b : List UInt8) (B : Nat) (a : Option Addr) (c : Nat) (w : World) (hB : B ≤ w.heap.size) (hr : Row w B a 13 (pats b)) :
    Calls Tryz.prog 151 #[.slice a 13 c] w fun e w' => e = .returned (.tuple #[.agg (readV b), .bool (Pm.okL (Pm.vals b))]) ∧ Below w.heap.size w w' := by
  have hinfo : (Tryz.prog.info? 195).map (·.size) = some 13 := by kernel_rfl
  obtain ⟨ab, ao, rfl, hab, hac⟩ := hr (by omega)
  have HAC := Lib.hid hac
  clear hac hr
  go_enter Tryz.func151, Tryz.ntmps151
  go_wp2
  go_loopw [5] (fun i wr => ∃ k : Nat, k ≤ 13 ∧ i = .int .i64 k ∧ wr.heap[w.heap.size]? = some (.cells (arr b k) 195 (0, 0)) ∧ Below w.heap.size w wr ∧ Hid (∀ i, i < k → Pm.okC (Pm.val b i) = true)) (fun i _ => 13 - (Go.RowKit.intOf i).toNat)
  case atStart => exact ⟨0, by omega, rfl, by rw [arr_zero]; exact heap_alloc_new _ _, (Below.refl _ _).alloc (Nat.le_refl _) _, Lib.hid (fun i hi => absurd hi (by omega))⟩
  case round =>
    obtain ⟨k, hk, rfl, hrow, hbel, hall⟩ := hrel
    by_cases hlt : k < 13
    · have hpl := Pm.pat_lt b k hlt
      have hcn : wr.cell? ⟨ab, ao + k, none⟩ = some (.int .u64 ((Pm.pat b k : Nat) : Int)) := by
        rw [hbel.cell (p := ⟨ab, ao + k, none⟩) (Nat.lt_of_lt_of_le hab hB), HAC.out k hlt, pats]
      have hcell : wr.cell? ⟨w.heap.size, k, none⟩ = some (.int .i64 0) := by rw [cell_of_row _ _ _ _ _ _ hrow, arr_at b k hlt]
      have hfz := frozen_of_row wr w.heap.size k _ _ hrow
      have hnew := heap_setCell_same wr w.heap.size k _ _ (.int .i64 (Pm.val b k)) hrow
      rw [arr_succ b k hlt] at hnew
      have hbn := hbel.setCell (p := ⟨w.heap.size, k, none⟩) (Nat.le_refl _) (.int .i64 (Pm.val b k))
      have hsame := World.cell?_setCell_same wr ⟨w.heap.size, k, none⟩ (.int .i64 (Pm.val b k)) hcell
      have hval : Pm.val b k = (Pm.pat b k : Int) - 1 := rfl
      obtain ⟨z, hz⟩ : ∃ z, z = Pm.okC (Pm.val b k) := ⟨_, rfl⟩
      have C := Lib.hid (fun w1 => may_any (Pm.val b k) w1)
      rw [← hz] at C
      have HZ := Lib.hid hz
      rw [hval] at hnew hbn hsame C
      obtain ⟨x, hx⟩ : ∃ x, x = Pm.pat b k := ⟨_, rfl⟩
      rw [← hx] at hpl hcn hnew hbn hsame C
      have HN := Lib.hid hnew
      have HBN := Lib.hid hbn
      clear hnew hbn hz hx hval hrow hbel
      cases z with
      | true =>
        go_wp2_with fail
        refine (C.out _).mono ?_
        rintro e w1 ⟨rfl, rfl⟩
        go_wp2
        go_roundw
        case rel => exact ⟨k + 1, by omega, by go_num, HN.out, HBN.out, Lib.hid (fun i hi => by
          by_cases e : i = k
          · subst e; exact HZ.out.symm
          · exact hall.out i (by omega))⟩
        case measure => simp [Go.RowKit.intOf]; omega
      | false =>
        have hbad := okL_bad b k hlt HZ.out.symm
        have HBAD := Lib.hid hbad
        clear hbad
        go_wp2_with fail
        refine (C.out _).mono ?_
        rintro e w1 ⟨rfl, rfl⟩
        have hs0 := arr_size b 0
        rw [arr_zero] at hs0
        have hon := arr_one b 0
        rw [arr_zero] at hon
        go_wp2_with (first | (refine wpList_store_row rfl 195 _ _ rfl w.heap.size _ rfl rfl 195 _ HN.out hinfo (by rw [arr_size]; rfl) hon ?_))
        refine bodyPost_ret (results_arr (p := 2) (u := 3) rfl _ _ w.heap.size _ _ rfl rfl (setRow_heap _ _ _ _ _ _ HN.out) rfl) rfl ⟨?_, below_setRow HBN.out (Nat.le_refl _) _⟩
        unfold readV
        rw [HBAD.out, if_neg (by decide), arr_zero]
        rfl
    · obtain rfl : k = 13 := by omega
      have hok := okL_vals b hall.out
      have HOK := Lib.hid hok
      have HR := Lib.hid hrow
      have HB := Lib.hid hbel
      have hset := setRow_heap wr w.heap.size _ (arr b 13) _ _ hrow
      have HS := Lib.hid hset
      have hsz : (arr b 13).size = 13 := arr_size b 13
      have HSZ := Lib.hid hsz
      clear hrow hbel hok hset hsz
      go_wp2_with (first | (refine wpList_load_row rfl 195 _ rfl w.heap.size rfl 195 (arr b 13) (0, 0) _ HR.out Tryz.underlying195 rfl (by rw [HSZ.out]; exact hinfo) ?_) | (refine wpList_store_row rfl 195 _ _ rfl w.heap.size (arr b 13) rfl rfl 195 (arr b 13) HR.out (by rw [HSZ.out]; exact hinfo) rfl (arr_one b 13) ?_))
      refine bodyPost_ret (results_arr (p := 2) (u := 3) rfl _ _ w.heap.size _ _ rfl rfl HS.out HSZ.out) rfl ⟨?_, below_setRow HB.out (Nat.le_refl _) _⟩
      unfold readV
      rw [HOK.out, if_pos rfl]
      rfl
end Go.Proofs.YtbmabcddciibfaaGreat
namespace Go.Proofs.YtbmabcddciibfaaGreat
open Go.RowKit
set_option maxRecDepth 100000
set_option linter.unusedVariables false
def ncells (g : Nat) (ls : List Int) (k : Nat) : List Value := (List.range k).map fun i => nbs (Pm.nums g ls) i
theorem ncells_succ (g : Nat) (ls : List Int) (k : Nat) : ncells g ls (k + 1) = ncells g ls k ++ [nbs (Pm.nums g ls) k] := by simp [ncells, List.range_succ]
theorem okL_of (ls : List Int) (hl : ls.length = 13) (h : ∀ i, i < 13 → Pm.okC (ls.getD i 0) = true) : Pm.okL ls = true := (Pm.okL_iff ls).2 ⟨hl, h⟩
theorem seal64 (l : List UInt8) (w : World) (h : l.length ≤ 60) :
    Calls Tryz.prog 163 #[.string (Om.B l), .int .i64 64] w fun e w' => e = .returned (.tuple #[.string (Om.B (sealed l 60)), .int .i64 0]) ∧ Below w.heap.size w w' := seal_ok l 60 w (by omega) h
theorem slice_of {w : World} {base : Nat} {t : TypeId} {v : Value} {n : Nat} {xs : List Value} (h : w.ownsRow base t 1 v (n + 1) xs) : ∃ g c, v = .slice (some ⟨g, 0, none⟩) (n + 1) c := by
  rcases h.2 with ⟨_, h0⟩ | ⟨g, c, cur, hv, _⟩
  · omega
  · exact ⟨g, c, hv⟩
set_option maxHeartbeats 800000 in
theorem penc_any (g : Nat) (ls : List Int) (B : Nat) (a : Option Addr) (n c : Nat) (w : World) (hg : g < 4294967296) (hl : ls.length = n) (hn : n ≤ 9223372036854775807) (hB : B ≤ w.heap.size) (hr : Row w B a n (szs ls)) :
    Calls Tryz.prog 141 #[.int .u32 (g : Int), .slice a n c] w fun e w' => e = .returned (.tuple #[.string (Om.B (Pm.encS g ls)), .int .i64 (Pm.encE ls)]) ∧ Below w.heap.size w w' := by
  obtain ⟨i0, hi, hz0, hz1, hz2⟩ := info_parts info_u64
  by_cases h13 : n = 13
  · subst h13
    obtain ⟨ab, ao, rfl, hab, hac⟩ := hr (by omega)
    have HAC := Lib.hid hac
    have HL := Lib.hid hl
    clear hac hr hl hn
    go_enter Tryz.func141, Tryz.ntmps141
    go_wp2
    have hown0 : (w.alloc (.cells #[.int .u64 (g : Int)] 166)).ownsRow w.heap.size 166 1 (.slice (some ⟨w.heap.size, 0, none⟩) 1 1) 1 (ncells g ls 1) := World.ownsRow_lit w #[.int .u64 (g : Int)] 1 (Nat.le_refl _) (by unfold maxLen; omega) rfl
    have HO0 := Lib.hid hown0
    clear hown0
    go_loopw [6, 19] (fun v i wr => ∃ k : Nat, k ≤ 13 ∧ i = .int .i64 k ∧ wr.ownsRow w.heap.size 166 1 v (k + 1) (ncells g ls (k + 1)) ∧ Below w.heap.size w wr ∧ Hid (∀ i, i < k → Pm.okC (ls.getD i 0) = true)) (fun _ i _ => 13 - (Go.RowKit.intOf i).toNat)
    case atStart => exact ⟨0, Nat.zero_le _, rfl, HO0.out, (Below.refl _ _).alloc (Nat.le_refl _) _, Lib.hid (fun i hi => absurd hi (by omega))⟩
    case round =>
      obtain ⟨k, hk, rfl, hown, hbel, hall⟩ := hrel
      have HB := Lib.hid hbel
      have hsz := hbel.size
      by_cases hlt : k < 13
      · have hcx : wr.cell? ⟨ab, ao + k, none⟩ = some (.int .i64 (ls.getD k 0)) := by
          rw [hbel.cell (p := ⟨ab, ao + k, none⟩) (Nat.lt_of_lt_of_le hab hB), HAC.out k hlt, szs]
        obtain ⟨z, hz⟩ : ∃ z, z = Pm.okC (ls.getD k 0) := ⟨_, rfl⟩
        have C := Lib.hid (fun w1 => may_any (ls.getD k 0) w1)
        rw [← hz] at C
        cases z with
        | true =>
          have hiff := (Pm.okC_iff _).1 hz.symm
          have hnum := Pm.nums_int g ls k (by rw [HL.out]; exact hlt) hz.symm
          have hnb : nbs (Pm.nums g ls) (k + 1) = .int .u64 (((Pm.nums g ls).getD (k + 1) 0 : Nat) : Int) := rfl
          obtain ⟨x, hx⟩ : ∃ x, x = ls.getD k 0 := ⟨_, rfl⟩
          obtain ⟨y, hy⟩ : ∃ y, y = (Pm.nums g ls).getD (k + 1) 0 := ⟨_, rfl⟩
          rw [← hx] at hcx C hiff hnum
          rw [← hy] at hnum hnb
          obtain ⟨hx1, hx2⟩ := hiff
          have hxy : x + 1 = (y : Int) := hnum.symm
          have HZ := Lib.hid hz
          have HNB := Lib.hid hnb
          clear hz hnb hx hy hnum hbel
          go_wp2_with fail
          refine (C.out _).mono ?_
          rintro e w1 ⟨rfl, rfl⟩
          go_wp2_with (first | (at_builtin; refine wpList_append_own _ rfl _ _ 168 rfl w.heap.size 166 i0 (.int .u64 0) 1 8 Tryz.underlying168 hi hz0 hz1 hz2 rfl (by decide) _ _ _ rfl (hown.alloc _) ⟨wr.heap.size, 0, none⟩ 1 1 [.int .u64 (y : Int)] rfl rfl ?c1 ?c2 ?c3 ?c4 ?c5 ?_))
          case c1 =>
            intro q u hq
            match q, hq with
            | 0, hq => simp at hq; subst hq; simp [Addr.add]
          case c2 => intro u hu; simp at hu; subst hu; rfl
          case c3 => unfold maxLen; omega
          case c4 => omega
          case c5 => simp; omega
          intro v' w1 hown' hgrow _
          have hbel1 : Below w.heap.size w w1 := (HB.out.alloc hsz _).grown hgrow (by simp; omega) (fun q hq => (hown.lt q hq).1)
          rw [← HNB.out, ← ncells_succ] at hown'
          have HB1 := Lib.hid hbel1
          have HO1 := Lib.hid hown'
          clear hgrow hown hbel1 hown'
          go_wp2
          go_roundw
          case rel => exact ⟨k + 1, by omega, by go_num, HO1.out, HB1.out, Lib.hid (fun i hi => by
            by_cases e : i = k
            · subst e; exact HZ.out.symm
            · exact hall.out i (by omega))⟩
          case measure => simp [Go.RowKit.intOf]; omega
        | false =>
          have hbad := Pm.enc_no g ls (Pm.okL_not ls k hlt hz.symm)
          obtain ⟨x, hx⟩ : ∃ x, x = ls.getD k 0 := ⟨_, rfl⟩
          rw [← hx] at hcx C
          have HBAD := Lib.hid hbad
          clear hbad hz hx hown hbel
          go_wp2_with fail
          refine (C.out _).mono ?_
          rintro e w1 ⟨rfl, rfl⟩
          go_wp2
          go_ret2
          exact ⟨by rw [HBAD.out.1, HBAD.out.2]; rfl, HB.out⟩
      · obtain rfl : k = 13 := by omega
        have hok := okL_of ls HL.out hall.out
        obtain ⟨hj1, hj2⟩ := Pm.join_is g ls hg hok
        obtain ⟨he1, he2⟩ := Pm.enc_ok g ls hok
        obtain ⟨g1, c1, rfl⟩ := slice_of hown
        have hrow : Row wr wr.heap.size (some ⟨g1, 0, none⟩) 14 (nbs (Pm.nums g ls)) := Row.own hown (fun i hi => by simp [ncells, show i < 13 + 1 from hi])
        have hu : ∀ i, (Pm.nums g ls).getD i 0 < 18446744073709551616 := fun i => by
          by_cases hi : i < 14
          · have := Pm.nums_lt g ls hg hok i hi; omega
          · rw [List.getD_eq_getElem?_getD, List.getElem?_eq_none (by rw [Pm.nums_len, HL.out]; omega)]; simp
        have hnl : (Pm.nums g ls).length = 14 := by rw [Pm.nums_len, HL.out]
        have hbl := Pm.body_len g ls
        have HROW := Lib.hid hrow
        have HU := Lib.hid hu
        have HNL := Lib.hid hnl
        have HBL := Lib.hid hbl
        have J1 := Lib.hid hj1
        have J2 := Lib.hid hj2
        have E1 := Lib.hid he1
        have E2 := Lib.hid he2
        clear hrow hu hnl hbl hj1 hj2 he1 he2 hown hbel hok hall
        go_wp2_with fail
        refine (sizes_any _).mono ?_
        rintro e w1 ⟨rfl, hr1, hb1⟩
        have HR1 := Lib.hid hr1
        have HB1 := Lib.hid (HB.out.trans (hb1.mono hsz))
        have hrow1 := (HROW.out.below hb1).more hb1.size
        have HROW1 := Lib.hid hrow1
        clear hr1 hb1 hrow1
        go_wp2_with fail
        refine (join_any Pm.zs (Pm.nums g ls) w1.heap.size (some ⟨wr.heap.size, 0, none⟩) (some ⟨g1, 0, none⟩) 14 14 14 c1 _ rfl HNL.out (by omega) (by omega) (Nat.le_refl _) HR1.out HROW1.out HU.out).mono ?_
        rw [J1.out, J2.out]
        rintro e w2 ⟨rfl, hb2⟩
        have HB2 := Lib.hid (HB1.out.trans (hb2.mono HB1.out.size))
        clear hb2
        go_wp2_with fail
        refine (seal64 (Pm.body g ls) _ (by rw [HBL.out]; omega)).mono ?_
        rintro e w3 ⟨rfl, hb3⟩
        have HB3 := Lib.hid (HB2.out.trans (hb3.mono HB2.out.size))
        clear hb3
        go_wp2
        go_ret2
        exact ⟨by rw [E1.out, E2.out]; rfl, HB3.out⟩
  · have hne : ((n : Int) != 13) = true := by rw [bne_iff_ne]; omega
    have hbad := Pm.enc_no g ls (Pm.okL_len ls (by omega))
    rw [hbad.1, hbad.2]
    clear hbad h13 hr hl
    go_enter Tryz.func141, Tryz.ntmps141
    go_wp2
    go_ret2
    exact ⟨rfl, Below.refl _ _⟩
end Go.Proofs.YtbmabcddciibfaaGreat
namespace Go.Proofs.YtbmabcddciibfaaGreat
open Go.RowKit
set_option linter.unusedVariables false
def Hv (g : Nat) (c p : Int) (b : Bool) : Value := .agg #[.int .u32 (g : Int), .int .i64 c, .int .i64 p, .bool b]
theorem hright_any (g : Nat) (c p : Int) (b : Bool) (w : World) : Calls Tryz.prog 159 #[Hv g c p b] w fun e w' => e = .returned (.bool (Hm.okH g c p)) ∧ Below w.heap.size w w' := by
  have HB : Hid (Below w.heap.size w (w.alloc (.cells #[.int .u32 (g : Int), .int .i64 c, .int .i64 p, .bool b] 105))) := (Below.refl _ w).alloc (Nat.le_refl _) _
  unfold Hv
  by_cases h1 : 1 ≤ g
  · have d1 : decide (1 ≤ (g : Int)) = true := by simp; omega
    by_cases h2 : 1 ≤ c
    · have d2 : decide (1 ≤ c) = true := by simpa using h2
      by_cases h3 : c ≤ 128
      · have d3 : decide (c ≤ 128) = true := by simpa using h3
        by_cases h4 : 1 ≤ p
        · have d4 : decide (1 ≤ p) = true := by simpa using h4
          have hr : Hm.okH g c p = decide (p ≤ 1048576) := by unfold Hm.okH; simp [h1, h2, h3, h4]
          have HR := Lib.hid hr
          clear hr h1 h2 h3 h4
          go_enter Tryz.func159, Tryz.ntmps159
          go_wp2_with fail
          go_ret
          exact ⟨by rw [HR.out]; rfl, HB.out⟩
        · have d4 : decide (1 ≤ p) = false := by simpa using h4
          have hr : Hm.okH g c p = false := by unfold Hm.okH; simp [h4]
          have HR := Lib.hid hr
          clear hr h1 h2 h3 h4
          go_enter Tryz.func159, Tryz.ntmps159
          go_wp2_with fail
          go_ret
          exact ⟨by rw [HR.out]; rfl, HB.out⟩
      · have d3 : decide (c ≤ 128) = false := by simpa using h3
        have hr : Hm.okH g c p = false := by unfold Hm.okH; simp [h3]
        have HR := Lib.hid hr
        clear hr h1 h2 h3
        go_enter Tryz.func159, Tryz.ntmps159
        go_wp2_with fail
        go_ret
        exact ⟨by rw [HR.out]; rfl, HB.out⟩
    · have d2 : decide (1 ≤ c) = false := by simpa using h2
      have hr : Hm.okH g c p = false := by unfold Hm.okH; simp [h2]
      have HR := Lib.hid hr
      clear hr h1 h2
      go_enter Tryz.func159, Tryz.ntmps159
      go_wp2_with fail
      go_ret
      exact ⟨by rw [HR.out]; rfl, HB.out⟩
  · have d1 : decide (1 ≤ (g : Int)) = false := by simp; omega
    have hr : Hm.okH g c p = false := by unfold Hm.okH; simp [h1]
    have HR := Lib.hid hr
    clear hr h1
    go_enter Tryz.func159, Tryz.ntmps159
    go_wp2_with fail
    go_ret
    exact ⟨by rw [HR.out]; rfl, HB.out⟩
theorem mark_any (b : Bool) (w : World) : Calls Tryz.prog 162 #[.bool b] w fun e w' => e = .returned (.int .u64 ((Hm.bit b : Nat) : Int)) ∧ w = w' := by
  cases b with
  | true =>
    go_enter Tryz.func162, Tryz.ntmps162
    go_wp2
    go_ret
    exact ⟨rfl, rfl⟩
  | false =>
    go_enter Tryz.func162, Tryz.ntmps162
    go_wp2
    go_ret
    exact ⟨rfl, rfl⟩
theorem hsizes_any (w : World) : Calls Tryz.prog 161 #[] w fun e w' => e = .returned (.slice (some ⟨w.heap.size, 0, none⟩) 4 4) ∧ Row w' w'.heap.size (some ⟨w.heap.size, 0, none⟩) 4 (szs Hm.zs) ∧ Below w.heap.size w w' := by
  have hown : (w.alloc (.cells #[.int .i64 4, .int .i64 2, .int .i64 4, .int .i64 1] 3)).ownsRow w.heap.size 3 1 (.slice (some ⟨w.heap.size, 0, none⟩) 4 4) 4 [.int .i64 4, .int .i64 2, .int .i64 4, .int .i64 1] := World.ownsRow_lit w #[.int .i64 4, .int .i64 2, .int .i64 4, .int .i64 1] 4 (Nat.le_refl _) (by unfold maxLen; omega) rfl
  have hrow : Row (w.alloc (.cells #[.int .i64 4, .int .i64 2, .int .i64 4, .int .i64 1] 3)) (w.alloc (.cells #[.int .i64 4, .int .i64 2, .int .i64 4, .int .i64 1] 3)).heap.size (some ⟨w.heap.size, 0, none⟩) 4 (szs Hm.zs) := Row.own hown (fun i hi => by
    match i, hi with
    | 0, _ => rfl
    | 1, _ => rfl
    | 2, _ => rfl
    | 3, _ => rfl)
  have HB : Hid (Below w.heap.size w (w.alloc (.cells #[.int .i64 4, .int .i64 2, .int .i64 4, .int .i64 1] 3))) := (Below.refl _ w).alloc (Nat.le_refl _) _
  have HR := Lib.hid hrow
  clear hown hrow
  go_enter Tryz.func161, Tryz.ntmps161
  go_wp2
  go_ret
  exact ⟨rfl, HR.out, HB.out⟩
end Go.Proofs.YtbmabcddciibfaaGreat
namespace Go.Proofs.YtbmabcddciibfaaGreat
open Go.RowKit
set_option linter.unusedVariables false
structure Bx (W : World) (k : Nat) (g : Nat) (c p : Int) (b : Bool) : Prop where
  lt : k < W.heap.size
  c0 : W.cell? ⟨k, 0, none⟩ = some (.int .u32 (g : Int))
  c1 : W.cell? ⟨k, 1, none⟩ = some (.int .i64 c)
  c2 : W.cell? ⟨k, 2, none⟩ = some (.int .i64 p)
  c3 : W.cell? ⟨k, 3, none⟩ = some (.bool b)
theorem Bx.below {W W' : World} {k g : Nat} {c p : Int} {b : Bool} {B : Nat} (h : Bx W k g c p b) (hk : k < B) (hb : Below B W W') : Bx W' k g c p b :=
  ⟨Nat.lt_of_lt_of_le h.lt hb.size, (hb.cell (p := ⟨k, 0, none⟩) hk).trans h.c0, (hb.cell (p := ⟨k, 1, none⟩) hk).trans h.c1, (hb.cell (p := ⟨k, 2, none⟩) hk).trans h.c2, (hb.cell (p := ⟨k, 3, none⟩) hk).trans h.c3⟩
theorem Bx.next {W W' : World} {k g : Nat} {c p : Int} {b : Bool} (h : Bx W k g c p b) (hb : Below W.heap.size W W') : Bx W' k g c p b := h.below h.lt hb
theorem bx_row {W : World} {k g : Nat} {c p : Int} {b : Bool} {t : TypeId} (h : W.heap[k]? = some (.cells #[.int .u32 (g : Int), .int .i64 c, .int .i64 p, .bool b] t (0, 0))) : Bx W k g c p b :=
  ⟨(Array.getElem?_eq_some_iff.1 h).1, by rw [cell_of_row _ _ _ _ _ _ h]; rfl, by rw [cell_of_row _ _ _ _ _ _ h]; rfl, by rw [cell_of_row _ _ _ _ _ _ h]; rfl, by rw [cell_of_row _ _ _ _ _ _ h]; rfl⟩
theorem bx_alloc (w : World) (g : Nat) (c p : Int) (b : Bool) (t : TypeId) : Bx (w.alloc (.cells #[.int .u32 (g : Int), .int .i64 c, .int .i64 p, .bool b] t)) w.heap.size g c p b := bx_row (heap_alloc_new w _)
theorem henc_no (g : Nat) (c p : Int) (b : Bool) (w : World) (hok : Hm.okH g c p = false) :
    Calls Tryz.prog 136 #[Hv g c p b] w fun e w' => e = .returned (.tuple #[.string (Om.B []), .int .i64 1]) ∧ Below w.heap.size w w' := by
  have R := Lib.hid (fun w1 => hright_any g c p b w1)
  rw [hok] at R
  have BX := Lib.hid (bx_alloc w g c p b 105)
  have HB : Hid (Below w.heap.size w (w.alloc (.cells #[.int .u32 (g : Int), .int .i64 c, .int .i64 p, .bool b] 105))) := (Below.refl _ w).alloc (Nat.le_refl _) _
  unfold Hv at R ⊢
  clear hok
  go_enter Tryz.func136, Tryz.ntmps136
  go_wp2_with fail
  refine (R.out _).mono ?_
  rintro e w1 ⟨rfl, hb⟩
  have HB1 := Lib.hid (HB.out.trans (hb.mono HB.out.size))
  clear hb
  go_wp2
  go_ret2
  exact ⟨rfl, HB1.out⟩
theorem hsizes_at (w : World) : Calls Tryz.prog 161 #[] w fun e w' => ∃ k, e = .returned (.slice (some ⟨k, 0, none⟩) 4 4) ∧ Row w' w'.heap.size (some ⟨k, 0, none⟩) 4 (szs Hm.zs) ∧ Below w.heap.size w w' :=
  (hsizes_any w).mono fun e w' h => ⟨w.heap.size, h⟩
def ncell (g c p : Nat) (b : Bool) : Obj := .cells #[.int .u64 (IntKind.u64.wrap (g : Int)), .int .u64 (IntKind.u64.wrap (c : Int)), .int .u64 (IntKind.u64.wrap (p : Int)), .int .u64 ((Hm.bit b : Nat) : Int)] 166
theorem nums_eq (g c p : Nat) (b : Bool) : Hm.nums g c p b = [g, c, p, Hm.bit b] := by unfold Hm.nums; rw [Int.toNat_natCast, Int.toNat_natCast]
theorem nums_row (g c p : Nat) (b : Bool) (W : World) (hg : g < 4294967296) (hc : c ≤ 128) (hp : p ≤ 1048576) : Row (W.alloc (ncell g c p b)) (W.alloc (ncell g c p b)).heap.size (some ⟨W.heap.size, 0, none⟩) 4 (nbs (Hm.nums g c p b)) := fun _ =>
  ⟨W.heap.size, 0, rfl, by simp, fun i hi => by
    have h := heap_alloc_new W (ncell g c p b)
    have e1 : IntKind.u64.wrap (g : Int) = (g : Int) := IntWalk.u64_in _ (by omega)
    have e2 : IntKind.u64.wrap (c : Int) = (c : Int) := IntWalk.u64_in _ (by omega)
    have e3 : IntKind.u64.wrap (p : Int) = (p : Int) := IntWalk.u64_in _ (by omega)
    unfold ncell at h ⊢
    rw [e1, e2, e3] at h ⊢
    rw [cell_of_row _ _ _ _ _ _ h, nums_eq]
    match i, hi with
    | 0, _ => rfl
    | 1, _ => rfl
    | 2, _ => rfl
    | 3, _ => rfl⟩
theorem nums_lt (g c p : Nat) (b : Bool) (hg : g < 4294967296) (hc : c ≤ 128) (hp : p ≤ 1048576) (i : Nat) : (Hm.nums g c p b).getD i 0 < 18446744073709551616 := by
  have hb := Hm.bit_le b
  rw [nums_eq]
  match i with
  | 0 => show g < _; omega
  | 1 => show c < _; omega
  | 2 => show p < _; omega
  | 3 => show Hm.bit b < _; omega
  | j + 4 => show 0 < _; omega
theorem hjoin_at (g c p : Nat) (b : Bool) (hg : g < 4294967296) (hok : Hm.okH g c p = true) (W : World) (ks : Nat) (hr : Row W W.heap.size (some ⟨ks, 0, none⟩) 4 (szs Hm.zs)) :
    Calls Tryz.prog 160 #[.slice (some ⟨ks, 0, none⟩) 4 4, .slice (some ⟨W.heap.size, 0, none⟩) 4 4] (W.alloc (ncell g c p b)) fun e w' => e = .returned (.tuple #[.string (Om.B (Om.joined Hm.zs (Hm.nums g c p b) 4)), .int .i64 0]) ∧ Below W.heap.size W w' := by
  obtain ⟨k1, k2, k3, k4, k5⟩ := (Hm.okH_iff _ _ _).1 hok
  have hb : Below W.heap.size W (W.alloc (ncell g c p b)) := (Below.refl _ W).alloc (Nat.le_refl _) _
  have hj := Hm.join_is g c p b hg hok
  have hl : (Hm.nums g c p b).length = 4 := rfl
  refine (join_any Hm.zs (Hm.nums g c p b) _ _ _ 4 4 4 4 _ rfl hl (by omega) (by omega) (Nat.le_refl _) ((hr.below hb).more hb.size) (nums_row g c p b W hg (by omega) (by omega)) (nums_lt g c p b hg (by omega) (by omega))).mono ?_
  rw [hj.1, hj.2]
  rintro e w' ⟨he, hb'⟩
  exact ⟨he, hb.trans (hb'.mono hb.size)⟩
theorem hseal64 (l : List UInt8) (w : World) (h : l.length ≤ 60) :
    Calls Tryz.prog 163 #[.string (Om.B l), .int .i64 64] w fun e w' => e = .returned (.tuple #[.string (Om.B (sealed l 60)), .int .i64 0]) ∧ Below w.heap.size w w' := seal_ok l 60 w (by omega) h
set_option maxHeartbeats 800000 in
theorem henc_ok (g c p : Nat) (b : Bool) (w : World) (hg : g < 4294967296) (hok : Hm.okH g c p = true) :
    Calls Tryz.prog 136 #[Hv g c p b] w fun e w' => e = .returned (.tuple #[.string (Om.B (Hm.sector g c p b)), .int .i64 0]) ∧ Below w.heap.size w w' := by
  obtain ⟨k1, k2, k3, k4, k5⟩ := (Hm.okH_iff _ _ _).1 hok
  have R := Lib.hid (fun w1 => hright_any g c p b w1)
  rw [hok] at R
  have BX0 := Lib.hid (bx_alloc w g c p b 105)
  have HB : Hid (Below w.heap.size w (w.alloc (.cells #[.int .u32 (g : Int), .int .i64 (c : Int), .int .i64 (p : Int), .bool b] 105))) := (Below.refl _ w).alloc (Nat.le_refl _) _
  obtain ⟨W0, hW0⟩ : ∃ W0, w.alloc (.cells #[.int .u32 (g : Int), .int .i64 (c : Int), .int .i64 (p : Int), .bool b] 105) = W0 := ⟨_, rfl⟩
  rw [hW0] at HB BX0
  obtain ⟨lt0, a0, a1, a2, a3⟩ := BX0.out
  have SZ := Lib.hid hsizes_at
  have J := Lib.hid (hjoin_at g c p b hg hok)
  obtain ⟨body, hbody⟩ : ∃ l, l = Om.joined Hm.zs (Hm.nums g c p b) 4 := ⟨_, rfl⟩
  have hbl : body.length = 11 := by rw [hbody, Om.joined_length Hm.zs _ 4 (by decide)]; exact Hm.zs_off
  have hsec : Hm.sector g c p b = sealed (Hm.ts ++ body) 60 := by rw [hbody]; rfl
  have SL := Lib.hid (fun w1 => hseal64 (Hm.ts ++ body) w1 (by rw [List.length_append, hbl]; decide))
  have hcat := no_over Hm.ts body (by rw [hbl]; decide)
  have hap : (⟨#[79, 65, 75, 72]⟩ : ByteArray) ++ Om.B body = Om.B (Hm.ts ++ body) := Om.B_append Hm.ts body
  rw [← hbody] at J
  rw [hsec]
  unfold ncell at J
  unfold Hv at R ⊢
  clear hok hbody hsec hbl
  go_enter Tryz.func136, Tryz.ntmps136
  go_wp2_with fail
  clear hW0
  refine (R.out _).mono ?_
  rintro e w1 ⟨rfl, hb⟩
  have HB1 := Lib.hid (HB.out.trans (hb.mono HB.out.size))
  have BX1 := Lib.hid (BX0.out.next hb)
  clear hb a0 a1 a2 a3 lt0
  obtain ⟨lt1, a0, a1, a2, a3⟩ := BX1.out
  go_wp2
  go_region_held3 (fun w' => w'.cell? ⟨w.heap.size, 0, none⟩ = some (.int .u32 (g : Int)) ∧ w'.cell? ⟨w.heap.size, 1, none⟩ = some (.int .i64 (c : Int)) ∧ w'.cell? ⟨w.heap.size, 2, none⟩ = some (.int .i64 (p : Int)) ∧ w'.cell? ⟨w.heap.size, 3, none⟩ = some (.bool b))
    (first | go_keep | (refine ⟨?_, ?_, ?_, ?_⟩ <;> assumption) | (exact ⟨(BX.out.cell (p := ⟨w.heap.size, 0, none⟩) lt1).trans a0, (BX.out.cell (p := ⟨w.heap.size, 1, none⟩) lt1).trans a1, (BX.out.cell (p := ⟨w.heap.size, 2, none⟩) lt1).trans a2, (BX.out.cell (p := ⟨w.heap.size, 3, none⟩) lt1).trans a3⟩))
    (first | (go_at_call 161; refine (SZ.out _).mono ?_; rintro e w2 ⟨ks, rfl, hr2, hb2⟩; have BX : Hid (Below w1.heap.size w1 w2) := (Below.refl _ _).drew.trans hb2; have HR2 := Lib.hid hr2; clear hb2 hr2) | (go_at_call 162; refine (mark_any b _).mono ?_; rintro e w3 ⟨rfl, rfl⟩) | (go_at_call 160; refine (J.out _ _ HR2.out).mono ?_; rintro e w4 ⟨rfl, hb4⟩; have BY := BX; have BX : Hid (Below w1.heap.size w1 w4) := BY.out.trans (hb4.mono BY.out.size); clear hb4))
  clear a0 a1 a2 a3
  go_wp2_with fail
  refine (SL.out _).mono ?_
  rintro e w5 ⟨rfl, hb5⟩
  have HB5 := Lib.hid (HB1.out.trans ((BX.out.trans (hb5.mono BX.out.size)).mono HB1.out.size))
  clear hb5
  go_wp2
  go_ret2
  exact ⟨rfl, HB5.out⟩
theorem henc_any (g : Nat) (c p : Int) (b : Bool) (w : World) (hg : g < 4294967296) :
    Calls Tryz.prog 136 #[Hv g c p b] w fun e w' => e = .returned (.tuple #[.string (Om.B (Hm.encS g c p b)), .int .i64 (Hm.encE g c p)]) ∧ Below w.heap.size w w' := by
  cases hok : Hm.okH g c p with
  | false =>
    rw [(Hm.enc_no b hok).1, (Hm.enc_no b hok).2]
    exact henc_no g c p b w hok
  | true =>
    rw [(Hm.enc_ok b hok).1, (Hm.enc_ok b hok).2]
    obtain ⟨k1, k2, k3, k4, k5⟩ := (Hm.okH_iff _ _ _).1 hok
    obtain ⟨c', rfl⟩ : ∃ n : Nat, c = (n : Int) := ⟨c.toNat, by omega⟩
    obtain ⟨p', rfl⟩ : ∃ n : Nat, p = (n : Int) := ⟨p.toNat, by omega⟩
    exact henc_ok g c' p' b w hg hok
end Go.Proofs.YtbmabcddciibfaaGreat
