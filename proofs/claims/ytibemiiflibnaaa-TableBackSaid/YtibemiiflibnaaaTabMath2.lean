/- All exceptions by rising chunks; pages; what is loaded. -/
import Derived.Test.YtibemiiflibnaaaTabMath
namespace Go.Proofs.Ytibemiiflibnaaa
namespace Tb
set_option linter.unusedVariables false

/-- All chunks, rising. -/
def keys (m : List Int) : List Int := (used m).mergeSort (fun x y => decide (x ≤ y))
def entry (m : List Int) (k : Int) : Int × Int := (k, (((find m k).getD 0 : Nat) : Int))
def all (m : List Int) : List (Int × Int) := (keys m).map (entry m)
theorem keys_mem {m : List Int} {x : Int} : x ∈ keys m ↔ x ∈ m ∧ 0 ≤ x := by unfold keys; rw [(List.mergeSort_perm _ _).mem_iff, used_mem]
theorem keys_length (m : List Int) : (keys m).length = (used m).length := (List.mergeSort_perm _ _).length_eq
theorem all_length (m : List Int) : (all m).length = (used m).length := by simp [all, keys_length]
theorem keys_strict {m : List Int} (h : Ok m) : (keys m).Pairwise (fun x y => x < y) := by
  have hs : (keys m).Pairwise (fun x y => (decide (x ≤ y)) = true) := List.pairwise_mergeSort (fun a b c h1 h2 => by simp at *; omega) (fun a b => by simp; omega) _
  have hn : (keys m).Nodup := (List.mergeSort_perm _ _).nodup_iff.2 (used_nodup h)
  refine (List.Pairwise.and hs hn).imp fun {a b} hab => ?_
  have := of_decide_eq_true hab.1
  have := hab.2
  omega
/-- The last one that was told. -/
def last (m : List Int) (r : Nat) : Int := if r = 0 then -1 else (keys m).getD (r - 1) 0
theorem last_zero (m : List Int) : last m 0 = -1 := rfl
theorem last_succ {m : List Int} {r : Nat} {x : Int} (h : (keys m)[r]? = some x) : last m (r + 1) = x := by
  unfold last
  rw [if_neg (by omega), Nat.add_sub_cancel, List.getD_eq_getElem?_getD, h]
  rfl
theorem last_ge (m : List Int) (h : Ok m) (r : Nat) (hr : r ≤ (keys m).length) : -1 ≤ last m r := by
  unfold last
  split
  · omega
  · have hl : r - 1 < (keys m).length := by omega
    rw [List.getD_eq_getElem?_getD, List.getElem?_eq_getElem hl]
    have := (keys_mem.1 (List.getElem_mem hl)).2
    simp only [Option.getD_some]
    omega
theorem key_le {m : List Int} (h : Ok m) {i j : Nat} (hi : i < (keys m).length) (hj : j < (keys m).length) (hij : i ≤ j) : (keys m)[i] ≤ (keys m)[j] := by
  rcases Nat.lt_or_eq_of_le hij with e | e
  · have := List.pairwise_iff_getElem.1 (keys_strict h) i j hi hj e; omega
  · subst e; exact Int.le_refl _
theorem last_lt {m : List Int} (h : Ok m) {r : Nat} (hr : r < (keys m).length) : last m r < (keys m)[r] := by
  unfold last
  split
  · have := (keys_mem.1 (List.getElem_mem hr)).2; omega
  · rw [List.getD_eq_getElem?_getD, List.getElem?_eq_getElem (by omega)]
    exact List.pairwise_iff_getElem.1 (keys_strict h) (r - 1) r (by omega) hr (by omega)
theorem next_none {m : List Int} (h : Ok m) {r : Nat} (hr : r ≤ (keys m).length) (hall : ∀ y ∈ m, y ≤ last m r) : r = (keys m).length := by
  rcases Nat.lt_or_eq_of_le hr with e | e
  · have h1 := last_lt h e
    have h2 := hall _ (keys_mem.1 (List.getElem_mem e)).1
    omega
  · exact e
theorem next_some {m : List Int} (h : Ok m) {r : Nat} (hr : r ≤ (keys m).length) {x : Int} (hx : x ∈ m) (hl : last m r < x) (hmin : ∀ y ∈ m, last m r < y → x ≤ y) : (keys m)[r]? = some x := by
  have hg := last_ge m h r hr
  obtain ⟨j, hj, e⟩ := List.getElem_of_mem (keys_mem.2 ⟨hx, by omega⟩)
  have hrj : r ≤ j := by
    rcases Nat.lt_or_ge j r with hlt | hge
    · unfold last at hl
      rw [if_neg (by omega), List.getD_eq_getElem?_getD, List.getElem?_eq_getElem (by omega)] at hl
      have := key_le h hj (show r - 1 < _ by omega) (by omega)
      simp only [Option.getD_some] at hl
      omega
    · exact hge
  have hrl : r < (keys m).length := by omega
  have h1 := hmin _ (keys_mem.1 (List.getElem_mem hrl)).1 (last_lt h hrl)
  have h2 := key_le h hrl hj hrj
  rw [List.getElem?_eq_getElem hrl]
  congr 1
  omega

/-- How many pages so many places have. -/
def pagesN (n : Nat) : Nat := (n + 12) / 13
/-- A page's numbers. -/
def page (m : List Int) (i : Nat) : List Int := (List.range 13).map fun k => (m[13 * i + k]?).getD (-1)
theorem page_length (m : List Int) (i : Nat) : (page m i).length = 13 := by simp [page]
theorem page_get (m : List Int) (i k : Nat) (h : k < 13) : (page m i)[k]? = some ((m[13 * i + k]?).getD (-1)) := by simp [page, h]
theorem page_full {n : Nat} {c : List Int} (i : Nat) : page (full n c) i = page c i := by
  unfold page
  refine List.map_congr_left fun k _ => ?_
  by_cases h : 13 * i + k < c.length
  · rw [full_left h]
  · by_cases h2 : 13 * i + k < n
    · rw [full_right (by omega) h2, List.getElem?_eq_none (by omega)]; rfl
    · have e1 : (full n c)[13 * i + k]? = none := List.getElem?_eq_none (by unfold full; rw [List.length_append, List.length_replicate]; omega)
      have e2 : c[13 * i + k]? = none := List.getElem?_eq_none (by omega)
      rw [e1, e2]
/-- The first so many pages, one behind the other. -/
def flat (m : List Int) (q : Nat) : List Int := (List.range q).flatMap (page m)
theorem flat_succ (m : List Int) (q : Nat) : flat m (q + 1) = flat m q ++ page m q := by simp [flat, List.range_succ]
theorem flat_length (m : List Int) (q : Nat) : (flat m q).length = 13 * q := by
  induction q with
  | zero => rfl
  | succ q ih => rw [flat_succ, List.length_append, ih, page_length]; omega
theorem flat_get (m : List Int) (q j : Nat) (h : j < 13 * q) : (flat m q)[j]? = some ((m[j]?).getD (-1)) := by
  induction q with
  | zero => omega
  | succ q ih =>
    rw [flat_succ]
    by_cases hj : j < 13 * q
    · rw [List.getElem?_append_left (by rw [flat_length]; exact hj)]; exact ih hj
    · rw [List.getElem?_append_right (by rw [flat_length]; omega), flat_length, page_get _ _ _ (by omega), show 13 * q + (j - 13 * q) = j by omega]

/-- Is a number one that can't stand there? -/
def badB (n : Nat) (l : List Int) (i : Nat) : Bool := match l[i]? with
  | some x => decide (x ≠ -1) && (!(decide (0 ≤ x ∧ x ≤ 2147483646)) || decide (n ≤ i) || (l.take i).contains x)
  | none => false
theorem bad_iff {n : Nat} {l : List Int} {i : Nat} {x : Int} (h : l[i]? = some x) : badB n l i = true ↔ x ≠ -1 ∧ (¬ (0 ≤ x ∧ x ≤ 2147483646) ∨ n ≤ i ∨ x ∈ l.take i) := by
  unfold badB
  rw [h]
  simp only [Bool.and_eq_true, Bool.or_eq_true, Bool.not_eq_true', decide_eq_true_eq, decide_eq_false_iff_not, List.contains_iff_mem]
  simp [or_assoc]
def badAny (n : Nat) (l : List Int) : Bool := (List.range l.length).any (badB n l)
/-- Load: the error; what stands then. -/
def loadE (p : Int) (l : List Int) : Int := if p < 0 ∨ p > 1048576 ∨ l.length ≠ pagesN p.toNat * 13 then 1 else if badAny p.toNat l then 165 else 0
theorem badAny_true {n : Nat} {l : List Int} {i : Nat} (hi : i < l.length) (h : badB n l i = true) : badAny n l = true := List.any_eq_true.2 ⟨i, List.mem_range.2 hi, h⟩
theorem badAny_false {n : Nat} {l : List Int} (h : ∀ i, i < l.length → badB n l i = false) : badAny n l = false := by
  unfold badAny
  rw [List.any_eq_false]
  intro i hi
  rw [h i (List.mem_range.1 hi)]
  decide
/-- So many of the numbers, on so many places. -/
def pad (n : Nat) (s : List Int) : List Int := full n (s.take n)
theorem pad_all {n : Nat} {l : List Int} (h : n ≤ l.length) : pad n l = l.take n := by
  unfold pad full
  rw [List.length_take, Nat.min_eq_left h, Nat.sub_self]
  simp
theorem take_snoc {l : List Int} {k : Nat} {x : Int} (h : l[k]? = some x) : l.take (k + 1) = l.take k ++ [x] := by
  rw [List.take_add_one, h]; rfl
theorem take_short {l : List Int} {k n : Nat} (h : k ≤ n) : (l.take k).take n = l.take k := by rw [List.take_take, Nat.min_eq_right h]
theorem pad_free {n : Nat} {l : List Int} {k : Nat} (h : l[k]? = some (-1)) : pad n (l.take (k + 1)) = pad n (l.take k) := by
  have hk := (List.getElem?_eq_some_iff.1 h).1
  have e : (l.take k).length = k := by rw [List.length_take]; omega
  unfold pad
  by_cases hn : k < n
  · rw [take_short hn, take_short (Nat.le_of_lt hn), take_snoc h, full_more (by omega)]
  · rw [List.take_take, List.take_take, Nat.min_eq_left (by omega), Nat.min_eq_left (by omega)]
theorem pad_set {n : Nat} {l : List Int} {k : Nat} {x : Int} (h : l[k]? = some x) (hn : k < n) : pad n (l.take (k + 1)) = (pad n (l.take k)).set k x := by
  have hk := (List.getElem?_eq_some_iff.1 h).1
  have e : (l.take k).length = k := by rw [List.length_take]; omega
  unfold pad
  rw [take_short hn, take_short (Nat.le_of_lt hn), take_snoc h, ← full_snoc x (by omega), e]
theorem pad_mem {n : Nat} {l : List Int} {k : Nat} {x : Int} (h0 : 0 ≤ x) (hgood : ∀ j, j < k → badB n l j = false) : x ∈ pad n (l.take k) ↔ x ∈ l.take k := by
  unfold pad
  rw [full_mem h0]
  constructor
  · exact fun h => List.mem_of_mem_take h
  · intro h
    obtain ⟨j, hj⟩ := List.getElem?_of_mem h
    have hjk : j < k := by have := (List.getElem?_eq_some_iff.1 hj).1; simp at this; omega
    rw [List.getElem?_take, if_pos hjk] at hj
    have hb := hgood j hjk
    have hjn : j < n := by
      rcases Nat.lt_or_ge j n with h' | h'
      · exact h'
      · rw [(bad_iff hj).2 ⟨by omega, .inr (.inl h')⟩] at hb; cases hb
    exact List.mem_of_getElem? (i := j) (by rw [List.getElem?_take, if_pos hjn, List.getElem?_take, if_pos hjk]; exact hj)
/-- Back again: a table's pages are loaded to it. -/
theorem flat_take {m : List Int} : (flat m (pagesN m.length)).take m.length = m := by
  apply List.ext_getElem?
  intro j
  rw [List.getElem?_take]
  by_cases h : j < m.length
  · rw [if_pos h, flat_get _ _ _ (by unfold pagesN; omega), List.getElem?_eq_getElem h]; rfl
  · rw [if_neg h, List.getElem?_eq_none (by omega)]
theorem flat_good {m : List Int} (h : Ok m) : loadE (m.length : Int) (flat m (pagesN m.length)) = 0 := by
  have hf := h.few
  unfold loadE
  rw [if_neg (by
    rintro (h1 | h1 | h1)
    · omega
    · omega
    · exact h1 (by rw [flat_length, Int.toNat_natCast]; omega))]
  rw [if_neg]
  rw [Int.toNat_natCast, badAny_false]
  · decide
  intro i hi
  rw [flat_length] at hi
  have hg := flat_get m (pagesN m.length) i hi
  rw [Bool.eq_false_iff]
  intro hb
  obtain ⟨h1, h2⟩ := (bad_iff hg).1 hb
  by_cases hl : i < m.length
  · rw [List.getElem?_eq_getElem hl] at h1 h2 hg
    simp only [Option.getD_some] at h1 h2 hg
    have hv := h.vals m[i] (List.getElem_mem hl)
    rcases h2 with h2 | h2 | h2
    · exact h2 ⟨by omega, hv.2⟩
    · omega
    · obtain ⟨j, hj⟩ := List.getElem?_of_mem h2
      have hjl := (List.getElem?_eq_some_iff.1 hj).1
      rw [List.length_take, flat_length] at hjl
      rw [List.getElem?_take, if_pos (by omega), flat_get _ _ _ (by omega), List.getElem?_eq_getElem (by omega)] at hj
      simp only [Option.getD_some] at hj
      have := h.uni j i m[i] (by rw [List.getElem?_eq_getElem (by omega)]; exact hj) (List.getElem?_eq_getElem hl) (by omega)
      omega
  · rw [List.getElem?_eq_none (by omega)] at h1
    exact h1 rfl
end Tb
end Go.Proofs.Ytibemiiflibnaaa
