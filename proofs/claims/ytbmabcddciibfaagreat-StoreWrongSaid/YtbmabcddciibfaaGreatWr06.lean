/- Part 6 of the contracts and of the plain mathematics that the proof of the law rests on: TabMath, TabMem, TabLay, TabGaps, TabPush. -/
import Derived.Test.YtbmabcddciibfaaGreatWr02
import Derived.Test.YtbmabcddciibfaaGreatWr05
import Derived.Lib.SlKeysI
import Derived.Shelf.Abstract
import Derived.WalkKit
import Derived.Test.YtbmabcddciibfaaGreatProg
import Derived.WalkSpells
import Derived.WalkLawsBesides
import Derived.Deep.QuietTactic
import Derived.BigQuiet
import Derived.RegionTactic
import Derived.StillTailTactics
import Derived.Deep.RegionHeld3
import Derived.Laws.AppendOwn
import Derived.Deep.RegionLaw
import Derived.Deep.AppendLies
namespace Go.Proofs.YtbmabcddciibfaaGreat
namespace Tb
set_option linter.unusedVariables false
theorem fi_some {p : Int → Bool} {m : List Int} {i : Nat} : m.findIdx? p = some i ↔ (∃ x, m[i]? = some x ∧ p x = true) ∧ ∀ j x, j < i → m[j]? = some x → p x = false := by
  rw [List.findIdx?_eq_some_iff_getElem]
  constructor
  · rintro ⟨h, hp, hn⟩
    refine ⟨⟨m[i], by simp [h], hp⟩, fun j x hj hx => ?_⟩
    obtain ⟨hl, rfl⟩ := List.getElem?_eq_some_iff.1 hx
    simpa using hn j hj
  · rintro ⟨⟨x, hx, hp⟩, hn⟩
    obtain ⟨hl, rfl⟩ := List.getElem?_eq_some_iff.1 hx
    exact ⟨hl, hp, fun j hj => by simpa using hn j _ hj (List.getElem?_eq_getElem (by omega))⟩
theorem fi_none {p : Int → Bool} {m : List Int} : m.findIdx? p = none ↔ ∀ x ∈ m, p x = false := by simp [List.findIdx?_eq_none_iff]
def find (m : List Int) (k : Int) : Option Nat := m.findIdx? (fun x => decide (x = k) && decide (0 ≤ k))
theorem find_some {m : List Int} {k : Int} {i : Nat} : find m k = some i ↔ 0 ≤ k ∧ m[i]? = some k ∧ ∀ j, j < i → m[j]? ≠ some k := by
  unfold find
  rw [fi_some]
  constructor
  · rintro ⟨⟨x, hx, hp⟩, hn⟩
    simp at hp
    obtain ⟨rfl, h0⟩ := hp
    exact ⟨h0, hx, fun j hj hc => by have := hn j _ hj hc; simp at this; omega⟩
  · rintro ⟨h0, hx, hn⟩
    refine ⟨⟨k, hx, by simp [h0]⟩, fun j x hj hc => ?_⟩
    have := hn j hj
    simp only [Bool.and_eq_false_iff, decide_eq_false_iff_not]
    left
    intro e
    subst e
    exact this hc
theorem find_none {m : List Int} {k : Int} : find m k = none ↔ (0 ≤ k → k ∉ m) := by
  unfold find
  rw [fi_none]
  constructor
  · intro h h0 hm
    have := h k hm
    simp at this
    omega
  · intro h x hx
    simp only [Bool.and_eq_false_iff, decide_eq_false_iff_not]
    by_cases h0 : 0 ≤ k
    · left; intro e; subst e; exact h h0 hx
    · exact .inr h0
def gap (m : List Int) : Option Nat := m.findIdx? (fun x => decide (x < 0))
theorem gap_some {m : List Int} {i : Nat} : gap m = some i ↔ (∃ x, m[i]? = some x ∧ x < 0) ∧ ∀ j x, j < i → m[j]? = some x → 0 ≤ x := by
  unfold gap
  rw [fi_some]
  simp
theorem gap_none {m : List Int} : gap m = none ↔ ∀ x ∈ m, 0 ≤ x := by
  unfold gap
  rw [fi_none]
  simp
theorem gap_lt {m : List Int} {i : Nat} (h : gap m = some i) : i < m.length := by
  obtain ⟨⟨x, hx, _⟩, _⟩ := gap_some.1 h
  exact (List.getElem?_eq_some_iff.1 hx).1
theorem find_lt {m : List Int} {k : Int} {i : Nat} (h : find m k = some i) : i < m.length := (List.getElem?_eq_some_iff.1 (find_some.1 h).2.1).1
def put (m : List Int) (k : Int) : List Int × Int × Int :=
  if 0 ≤ k ∧ k ≤ 2147483646 then match find m k with
    | some i => (m, (i : Int), 0)
    | none => match gap m with
      | some i => (m.set i k, (i : Int), 0)
      | none => (m, 0, 111)
  else (m, 0, 1)
def drop (m : List Int) (k : Int) : List Int × Int × Int := match find m k with
  | some i => (m.set i (-1), (i : Int), 0)
  | none => (m, 0, 161)
theorem put_arg {m : List Int} {k : Int} (h : ¬ (0 ≤ k ∧ k ≤ 2147483646)) : put m k = (m, 0, 1) := by unfold put; rw [if_neg h]
theorem put_has {m : List Int} {k : Int} (h : 0 ≤ k ∧ k ≤ 2147483646) {i : Nat} (hf : find m k = some i) : put m k = (m, (i : Int), 0) := by unfold put; rw [if_pos h, hf]
theorem put_new {m : List Int} {k : Int} (h : 0 ≤ k ∧ k ≤ 2147483646) (hf : find m k = none) {i : Nat} (hg : gap m = some i) : put m k = (m.set i k, (i : Int), 0) := by unfold put; rw [if_pos h, hf]; simp only [hg]
theorem put_full {m : List Int} {k : Int} (h : 0 ≤ k ∧ k ≤ 2147483646) (hf : find m k = none) (hg : gap m = none) : put m k = (m, 0, 111) := by unfold put; rw [if_pos h, hf]; simp only [hg]
theorem drop_has {m : List Int} {k : Int} {i : Nat} (hf : find m k = some i) : drop m k = (m.set i (-1), (i : Int), 0) := by unfold drop; rw [hf]
theorem drop_none {m : List Int} {k : Int} (hf : find m k = none) : drop m k = (m, 0, 161) := by unfold drop; rw [hf]
structure Ok (m : List Int) : Prop where
  few : m.length ≤ 1048576
  vals : ∀ x ∈ m, -1 ≤ x ∧ x ≤ 2147483646
  uni : ∀ (i j : Nat) (k : Int), m[i]? = some k → m[j]? = some k → 0 ≤ k → i = j
theorem Ok.find {m : List Int} (h : Ok m) {k : Int} {i : Nat} (h0 : 0 ≤ k) (hi : m[i]? = some k) : find m k = some i :=
  find_some.2 ⟨h0, hi, fun j hj hc => by have := h.uni i j k hi hc h0; omega⟩
theorem Ok.set {m : List Int} (h : Ok m) {k : Int} (i : Nat) (h1 : -1 ≤ k) (h2 : k ≤ 2147483646) (hm : 0 ≤ k → k ∉ m) : Ok (m.set i k) := by
  refine ⟨by simpa using h.few, fun x hx => ?_, fun a b x ha hb h0 => ?_⟩
  · rcases List.mem_or_eq_of_mem_set hx with hx | rfl
    · exact h.vals x hx
    · exact ⟨h1, h2⟩
  · rw [List.getElem?_set] at ha hb
    by_cases ea : i = a
    · by_cases eb : i = b
      · omega
      · rw [if_pos ea] at ha
        rw [if_neg eb] at hb
        split at ha
        · injection ha with ha
          subst ha
          exact (hm h0 (List.mem_of_getElem? hb)).elim
        · cases ha
    · rw [if_neg ea] at ha
      by_cases eb : i = b
      · rw [if_pos eb] at hb
        split at hb
        · injection hb with hb
          subst hb
          exact (hm h0 (List.mem_of_getElem? ha)).elim
        · cases hb
      · rw [if_neg eb] at hb
        exact h.uni a b x ha hb h0
theorem drop_ok {m : List Int} (h : Ok m) (k : Int) : Ok (drop m k).1 := by
  unfold drop
  split
  · exact h.set _ (by omega) (by omega) (fun c => by omega)
  · exact h
theorem drop_length (m : List Int) (k : Int) : (drop m k).1.length = m.length := by
  unfold drop
  split
  · simp
  · rfl
theorem ok_new (n : Nat) (h : n ≤ 1048576) : Ok (List.replicate n (-1)) := by
  refine ⟨by simpa using h, fun x hx => by rw [(List.mem_replicate.1 hx).2]; omega, fun i j k hi hj h0 => ?_⟩
  rw [List.getElem?_replicate] at hi
  split at hi
  · injection hi with hi; omega
  · cases hi
def full (n : Nat) (c : List Int) : List Int := c ++ List.replicate (n - c.length) (-1)
theorem full_length {n : Nat} {c : List Int} (h : c.length ≤ n) : (full n c).length = n := by simp [full]; omega
theorem full_nil (n : Nat) : full n [] = List.replicate n (-1) := by simp [full]
theorem full_left {n : Nat} {c : List Int} {i : Nat} (h : i < c.length) : (full n c)[i]? = c[i]? := by unfold full; rw [List.getElem?_append_left h]
theorem full_right {n : Nat} {c : List Int} {i : Nat} (h : c.length ≤ i) (hn : i < n) : (full n c)[i]? = some (-1) := by
  unfold full
  rw [List.getElem?_append_right h, List.getElem?_replicate, if_pos (by omega)]
theorem full_used {n : Nat} {c : List Int} {i : Nat} {k : Int} (h : (full n c)[i]? = some k) (h0 : 0 ≤ k) : c[i]? = some k := by
  by_cases hi : i < c.length
  · rwa [full_left hi] at h
  · unfold full at h
    rw [List.getElem?_append_right (by omega), List.getElem?_replicate] at h
    split at h
    · injection h with h; omega
    · cases h
theorem full_set {n : Nat} {c : List Int} {i : Nat} (x : Int) (h : i < c.length) : (full n c).set i x = full n (c.set i x) := by
  unfold full
  rw [List.set_append_left _ _ h, List.length_set]
theorem full_more {n : Nat} {c : List Int} (h : c.length < n) : full n (c ++ [-1]) = full n c := by
  unfold full
  rw [List.append_assoc]
  congr 1
  rw [List.length_append, List.length_singleton, show n - c.length = (n - (c.length + 1)) + 1 by omega, List.replicate_succ]
  rfl
theorem full_snoc {n : Nat} {c : List Int} (x : Int) (h : c.length < n) : (full n c).set c.length x = full n (c ++ [x]) := by
  rw [← full_more h, full_set x (by simp)]
  congr 1
  rw [List.set_append_right _ _ (Nat.le_refl _)]
  simp
theorem full_mem {n : Nat} {c : List Int} {k : Int} (h0 : 0 ≤ k) : k ∈ full n c ↔ k ∈ c := by
  unfold full
  rw [List.mem_append]
  constructor
  · rintro (h | h)
    · exact h
    · have := (List.mem_replicate.1 h).2; omega
  · exact .inl
structure Pr (n : Nat) (c g : List Int) : Prop where
  len : c.length ≤ n
  ok : Ok (full n c)
  heap : Hp.Heap g
  nodup : g.Nodup
  mem : ∀ x, x ∈ g ↔ ∃ i : Nat, x = (i : Int) ∧ c[i]? = some (-1)
theorem Pr.few {n : Nat} {c g : List Int} (h : Pr n c g) : n ≤ 1048576 := by have := h.ok.few; rwa [full_length h.len] at this
theorem Pr.vals {n : Nat} {c g : List Int} (h : Pr n c g) {i : Nat} {k : Int} (hi : c[i]? = some k) : -1 ≤ k ∧ k ≤ 2147483646 := h.ok.vals k (by unfold full; exact List.mem_append.2 (.inl (List.mem_of_getElem? hi)))
theorem Pr.glen {n : Nat} {c g : List Int} (h : Pr n c g) : g.length ≤ c.length := by
  have hp : g.Perm (((List.range c.length).filter (fun i => c[i]? == some (-1))).map fun i : Nat => (i : Int)) := by
    refine (List.perm_ext_iff_of_nodup h.nodup ?_).2 fun x => ?_
    · refine List.pairwise_map.2 ((List.nodup_range.filter _).imp fun {a b} hne e => hne (by omega))
    · rw [h.mem x, List.mem_map]
      constructor
      · rintro ⟨i, rfl, hi⟩
        exact ⟨i, List.mem_filter.2 ⟨List.mem_range.2 (List.getElem?_eq_some_iff.1 hi).1, by rw [hi]; rfl⟩, rfl⟩
      · rintro ⟨i, hi, rfl⟩
        have hi2 := (List.mem_filter.1 hi).2
        exact ⟨i, rfl, beq_iff_eq.1 hi2⟩
  rw [hp.length_eq, List.length_map]
  exact Nat.le_trans (List.length_filter_le _ _) (by simp)
theorem Pr.new (n : Nat) (h : n ≤ 1048576) : Pr n [] [] := ⟨Nat.zero_le _, by rw [full_nil]; exact ok_new n h, Hp.heap_nil, List.nodup_nil, fun x => by simp⟩
theorem Pr.more {n : Nat} {c g g' : List Int} (h : Pr n c g) (hn : c.length < n) (hp : g'.Perm (g ++ [(c.length : Int)])) (hh : Hp.Heap g') : Pr n (c ++ [-1]) g' := by
  refine ⟨by simp; omega, by rw [full_more hn]; exact h.ok, hh, ?_, fun x => ?_⟩
  · refine hp.nodup_iff.2 (List.nodup_append.2 ⟨h.nodup, by simp, fun a ha b hb => ?_⟩)
    rw [List.mem_singleton.1 hb]
    obtain ⟨i, rfl, hi⟩ := (h.mem a).1 ha
    have := (List.getElem?_eq_some_iff.1 hi).1
    omega
  · rw [hp.mem_iff, List.mem_append, h.mem x, List.mem_singleton]
    constructor
    · rintro (⟨i, rfl, hi⟩ | rfl)
      · exact ⟨i, rfl, by rw [List.getElem?_append_left (List.getElem?_eq_some_iff.1 hi).1]; exact hi⟩
      · exact ⟨c.length, rfl, by simp⟩
    · rintro ⟨i, rfl, hi⟩
      by_cases hl : i < c.length
      · rw [List.getElem?_append_left hl] at hi
        exact .inl ⟨i, rfl, hi⟩
      · have : i < (c ++ [-1]).length := (List.getElem?_eq_some_iff.1 hi).1
        simp at this
        exact .inr (by omega)
theorem Pr.snoc {n : Nat} {c g : List Int} (h : Pr n c g) (hn : c.length < n) {k : Int} (h0 : 0 ≤ k) (h1 : k ≤ 2147483646) (hk : k ∉ c) : Pr n (c ++ [k]) g := by
  refine ⟨by simp; omega, by rw [← full_snoc k hn]; exact h.ok.set _ (by omega) h1 (fun _ => by rw [full_mem h0]; exact hk), h.heap, h.nodup, fun x => ?_⟩
  rw [h.mem x]
  constructor
  · rintro ⟨i, rfl, hi⟩
    exact ⟨i, rfl, by rw [List.getElem?_append_left (List.getElem?_eq_some_iff.1 hi).1]; exact hi⟩
  · rintro ⟨i, rfl, hi⟩
    by_cases hl : i < c.length
    · rw [List.getElem?_append_left hl] at hi
      exact ⟨i, rfl, hi⟩
    · rw [List.getElem?_append_right (by omega)] at hi
      cases e : i - c.length with
      | zero => rw [e] at hi; simp at hi; omega
      | succ j => rw [e] at hi; simp at hi
theorem Pr.fill {n : Nat} {c g g' : List Int} (h : Pr n c g) {i : Nat} (hp : ((i : Int) :: g').Perm g) (hh : Hp.Heap g') {k : Int} (h0 : 0 ≤ k) (h1 : k ≤ 2147483646) (hk : k ∉ c) : c[i]? = some (-1) ∧ Pr n (c.set i k) g' := by
  have hi : c[i]? = some (-1) := by
    obtain ⟨j, hj, hc⟩ := (h.mem (i : Int)).1 (hp.mem_iff.1 (by simp))
    have : i = j := by omega
    rw [this]; exact hc
  have hil := (List.getElem?_eq_some_iff.1 hi).1
  have hnd := hp.nodup_iff.2 h.nodup
  rw [List.nodup_cons] at hnd
  refine ⟨hi, ⟨by simpa using h.len, by rw [← full_set k hil]; exact h.ok.set _ (by omega) h1 (fun _ => by rw [full_mem h0]; exact hk), hh, hnd.2, fun x => ?_⟩⟩
  have hx : x ∈ g' ↔ x ∈ g ∧ x ≠ (i : Int) := by
    rw [← hp.mem_iff, List.mem_cons]
    constructor
    · exact fun hx => ⟨.inr hx, fun e => hnd.1 (e ▸ hx)⟩
    · rintro ⟨rfl | hx, hne⟩
      · exact (hne rfl).elim
      · exact hx
  rw [hx, h.mem x]
  constructor
  · rintro ⟨⟨j, rfl, hj⟩, hne⟩
    exact ⟨j, rfl, by rw [List.getElem?_set, if_neg (fun e => hne (by rw [e]))]; exact hj⟩
  · rintro ⟨j, rfl, hj⟩
    rw [List.getElem?_set] at hj
    by_cases hne : i = j
    · rw [if_pos hne, if_pos hil] at hj
      injection hj with hj; omega
    · rw [if_neg hne] at hj
      exact ⟨⟨j, rfl, hj⟩, fun e => hne (by omega)⟩
theorem Pr.free {n : Nat} {c g g' : List Int} (h : Pr n c g) {i : Nat} {k : Int} (hi : c[i]? = some k) (h0 : 0 ≤ k) (hp : g'.Perm (g ++ [(i : Int)])) (hh : Hp.Heap g') : Pr n (c.set i (-1)) g' := by
  have hil := (List.getElem?_eq_some_iff.1 hi).1
  refine ⟨by simpa using h.len, by rw [← full_set (-1) hil]; exact h.ok.set _ (by omega) (by omega) (fun c => by omega), hh, ?_, fun x => ?_⟩
  · refine hp.nodup_iff.2 (List.nodup_append.2 ⟨h.nodup, by simp, fun a ha b hb => ?_⟩)
    rw [List.mem_singleton.1 hb]
    obtain ⟨j, rfl, hj⟩ := (h.mem a).1 ha
    intro e
    have : j = i := by omega
    rw [this, hi] at hj
    injection hj with hj
    omega
  · rw [hp.mem_iff, List.mem_append, h.mem x, List.mem_singleton]
    constructor
    · rintro (⟨j, rfl, hj⟩ | rfl)
      · refine ⟨j, rfl, ?_⟩
        rw [List.getElem?_set]
        by_cases e : i = j
        · rw [if_pos e, if_pos hil]
        · rw [if_neg e]; exact hj
      · exact ⟨i, rfl, by rw [List.getElem?_set, if_pos rfl, if_pos hil]⟩
    · rintro ⟨j, rfl, hj⟩
      rw [List.getElem?_set] at hj
      by_cases e : i = j
      · exact .inr (by rw [e])
      · rw [if_neg e] at hj
        exact .inl ⟨j, rfl, hj⟩
theorem Pr.gap_heap {n : Nat} {c g : List Int} (h : Pr n c g) (hg : g ≠ []) : ∃ i : Nat, Hp.at_ g 0 = (i : Int) ∧ gap (full n c) = some i := by
  have h0 : 0 < g.length := List.length_pos_iff.2 hg
  obtain ⟨i, hi, hc⟩ := (h.mem (Hp.at_ g 0)).1 (Hp.at_mem g 0 h0)
  have hil := (List.getElem?_eq_some_iff.1 hc).1
  refine ⟨i, hi, gap_some.2 ⟨⟨-1, by rw [full_left hil]; exact hc, by omega⟩, fun j x hj hx => ?_⟩⟩
  rw [full_left (by omega)] at hx
  by_cases hx0 : 0 ≤ x
  · exact hx0
  · have := h.vals hx
    have hx1 : x = -1 := by omega
    rw [hx1] at hx
    obtain ⟨a, ha, e⟩ := Hp.mem_at ((h.mem (j : Int)).2 ⟨j, rfl, hx⟩)
    have := Hp.heap_least h.heap a ha
    omega
theorem Pr.gap_end {n : Nat} {c : List Int} (h : Pr n c []) (hn : c.length < n) : gap (full n c) = some c.length := by
  refine gap_some.2 ⟨⟨-1, full_right (Nat.le_refl _) hn, by omega⟩, fun j x hj hx => ?_⟩
  rw [full_left hj] at hx
  by_cases hx0 : 0 ≤ x
  · exact hx0
  · have := h.vals hx
    have hx1 : x = -1 := by omega
    rw [hx1] at hx
    have := (h.mem (j : Int)).2 ⟨j, rfl, hx⟩
    simp at this
def used (m : List Int) : List Int := m.filter (fun x => decide (0 ≤ x))
theorem used_mem {m : List Int} {x : Int} : x ∈ used m ↔ x ∈ m ∧ 0 ≤ x := by simp [used]
theorem used_nodup {m : List Int} (h : Ok m) : (used m).Nodup := by
  have : ∀ s : List Int, (∀ (i j : Nat) (k : Int), s[i]? = some k → s[j]? = some k → 0 ≤ k → i = j) → (used s).Nodup := by
    intro s
    induction s with
    | nil => intro _; simp [used]
    | cons x s ih =>
      intro hu
      have ih' := ih fun i j k hi hj h0 => by have := hu (i + 1) (j + 1) k (by simpa using hi) (by simpa using hj) h0; omega
      by_cases hx : 0 ≤ x
      · rw [show used (x :: s) = x :: used s by simp [used, hx], List.nodup_cons]
        refine ⟨fun hm => ?_, ih'⟩
        obtain ⟨j, hj⟩ := List.getElem?_of_mem (used_mem.1 hm).1
        have := hu 0 (j + 1) x rfl (by simpa using hj) hx
        omega
      · rw [show used (x :: s) = used s by simp [used, hx]]
        exact ih'
  exact this m h.uni
theorem used_full (n : Nat) (c : List Int) : used (full n c) = used c := by
  unfold used full
  rw [List.filter_append]
  simp
theorem used_length_le (m : List Int) : (used m).length ≤ m.length := List.length_filter_le _ _
theorem gap_none_iff {m : List Int} : gap m = none ↔ m.length = (used m).length := by
  rw [gap_none]
  unfold used
  constructor
  · intro h
    rw [List.filter_eq_self.2 (fun x hx => by simpa using h x hx)]
  · intro h x hx
    have := List.length_filter_eq_length_iff.1 h.symm x hx
    simpa using this
end Tb
end Go.Proofs.YtbmabcddciibfaaGreat
namespace Go.Proofs.YtbmabcddciibfaaGreat
namespace Tb
open Go.RowKit Dsk
set_option linter.unusedVariables false
abbrev nums (l : List Int) : List Value := l.map (Value.int .i64)
abbrev Ints (w : World) (v : Value) (l : List Int) : Prop := w.ownsRow 0 3 1 v l.length (nums l)
def MapOk (D : DataW Unit) (c : List Int) : Prop :=
  Maps.IsMap D ∧ (∀ k : Int, Maps.has D (.int .i64 k) = true ↔ 0 ≤ k ∧ k ∈ c) ∧ ∀ (i : Nat) (k : Int), c[i]? = some k → 0 ≤ k → ∀ z, D.atKey (.int .i64 k) z = .lit (.int .i64 (i : Int))
theorem MapOk.nil : MapOk (.map []) [] := ⟨Maps.isMap_empty, fun k => by simp [Maps.has], fun i k h => by simp at h⟩
def PlaceOf (w : World) (b : Nat) (c : List Int) : Prop := ∃ D, w.ownsMap Tryz.prog 3 (plainElem (H := Unit) Tryz.prog 3) b (Maps.size D) D ∧ MapOk D c
theorem map_tight {w : World} {P : Program} {k : TypeId} {R : Value → Option (DataW Unit × List MemPlace)} {b n : Nat} {D : DataW Unit} (h : w.ownsMap P k R b n D) : w.ownsMap P k R b (Maps.size D) D := by
  obtain ⟨es, clock, hb, F, _, rfl⟩ := h
  exact ⟨es, clock, hb, F, by simp [Maps.size, length_sorted], rfl⟩
theorem PlaceOf.same {w w' : World} {b : Nat} {c : List Int} (h : PlaceOf w b c) (hb : w'.heap[b]? = w.heap[b]?) : PlaceOf w' b c := by
  obtain ⟨D, hm, hk⟩ := h
  exact ⟨D, map_same hm hb, hk⟩
theorem PlaceOf.lt {w : World} {b : Nat} {c : List Int} (h : PlaceOf w b c) : b < w.heap.size := by
  obtain ⟨D, hm, _⟩ := h
  exact hm.lt
theorem size_used {w : World} {b n : Nat} {D : DataW Unit} {c : List Int} (hown : w.ownsMap Tryz.prog 3 (plainElem (H := Unit) Tryz.prog 3) b n D) (hk : MapOk D c) (hn : (used c).Nodup) : (used c).Perm (intKeys D) ∧ Maps.size D = (used c).length := by
  have hp : (used c).Perm (intKeys D) := by
    obtain ⟨es, hD, hpw, _⟩ := hown.entries (Maps.int_keyed Tryz.underlying3)
    obtain ⟨es', hD', hko⟩ := hown.keysOf
    obtain rfl : es = es' := by rw [hD] at hD'; simpa using hD'
    subst hD
    exact perm_intKeys hpw (fun p hp => by obtain ⟨v, hv⟩ := hko p hp; obtain ⟨x, _, hx, _⟩ := Maps.keyOf_i64 Tryz.underlying3 hv; exact ⟨x, hx⟩) hn (fun x => by rw [hk.2.1 x, used_mem]; exact And.comm)
  refine ⟨hp, ?_⟩
  rw [hp.length_eq]
  obtain ⟨es, rfl⟩ := hk.1
  simp [intKeys, Maps.size]
structure Ob where
  p : Nat
  mb : Nat
  cv : Value
  gv : Value
def Ob.fp (o : Ob) (k : Nat) : Prop := k = o.p ∨ k = o.mb ∨ o.cv.ownBlock = some k ∨ o.gv.ownBlock = some k
structure Tk (w : World) (o : Ob) (n : Nat) (c g : List Int) : Prop where
  pr : Pr n c g
  head : w.heap[o.p]? = some (.cells #[.int .i64 (n : Int), .map (some o.mb), o.cv, o.gv] 155 (0, 0))
  chunks : Ints w o.cv c
  gaps : Ints w o.gv g
  placeOf : PlaceOf w o.mb c
  apart : ∀ k, o.cv.ownBlock = some k → o.gv.ownBlock ≠ some k
theorem Tk.lt {w : World} {o : Ob} {n : Nat} {c g : List Int} (h : Tk w o n c g) (k : Nat) (hk : o.fp k) : k < w.heap.size := by
  rcases hk with rfl | rfl | hk | hk
  · exact lt_of_heap h.head
  · exact h.placeOf.lt
  · obtain ⟨cur, hc⟩ := own_block h.chunks k hk; exact lt_of_heap hc
  · obtain ⟨cur, hc⟩ := own_block h.gaps k hk; exact lt_of_heap hc
theorem Tk.same {w w' : World} {o : Ob} {n : Nat} {c g : List Int} (h : Tk w o n c g) (hb : ∀ k, o.fp k → w'.heap[k]? = w.heap[k]?) : Tk w' o n c g :=
  ⟨h.pr, (hb _ (.inl rfl)).trans h.head, own_same h.chunks fun k hk => hb k (.inr (.inr (.inl hk))), own_same h.gaps fun k hk => hb k (.inr (.inr (.inr hk))), h.placeOf.same (hb _ (.inr (.inl rfl))), h.apart⟩
theorem Tk.keep {w w' : World} {o : Ob} {n : Nat} {c g : List Int} {F : Nat → Prop} (h : Tk w o n c g) (hf : Fr F w w') (hd : ∀ k, o.fp k → ¬ F k) : Tk w' o n c g := h.same fun k hk => hf.block k (h.lt k hk) (hd k hk)
theorem Tk.below {w w' : World} {o : Ob} {n : Nat} {c g : List Int} (h : Tk w o n c g) (hb : Below w.heap.size w w') : Tk w' o n c g := h.same fun k hk => hb.block k (h.lt k hk)
theorem Tk.p_ne {w : World} {o : Ob} {n : Nat} {c g : List Int} (h : Tk w o n c g) : o.mb ≠ o.p ∧ o.cv.ownBlock ≠ some o.p ∧ o.gv.ownBlock ≠ some o.p := by
  refine ⟨fun e => ?_, fun e => ?_, fun e => ?_⟩
  · obtain ⟨D, ⟨es, clock, hb, _⟩, _⟩ := h.placeOf
    rw [e, h.head] at hb; cases hb
  · obtain ⟨cur, hc⟩ := own_block h.chunks _ e
    rw [h.head] at hc; injection hc with hc; injection hc with _ hc; cases hc
  · obtain ⟨cur, hc⟩ := own_block h.gaps _ e
    rw [h.head] at hc; injection hc with hc; injection hc with _ hc; cases hc
theorem Tk.m_ne {w : World} {o : Ob} {n : Nat} {c g : List Int} (h : Tk w o n c g) : o.cv.ownBlock ≠ some o.mb ∧ o.gv.ownBlock ≠ some o.mb := by
  obtain ⟨D, ⟨es, clock, hb, _⟩, _⟩ := h.placeOf
  refine ⟨fun e => ?_, fun e => ?_⟩
  · obtain ⟨cur, hc⟩ := own_block h.chunks _ e
    rw [hb] at hc; cases hc
  · obtain ⟨cur, hc⟩ := own_block h.gaps _ e
    rw [hb] at hc; cases hc
theorem Tk.reads {w : World} {o : Ob} {n : Nat} {c g : List Int} (h : Tk w o n c g) :
    w.cell? ⟨o.p, 0, none⟩ = some (.int .i64 (n : Int)) ∧ w.cell? ⟨o.p, 1, none⟩ = some (.map (some o.mb)) ∧ w.cell? ⟨o.p, 2, none⟩ = some o.cv ∧ w.cell? ⟨o.p, 3, none⟩ = some o.gv ∧ ∀ j, w.frozen? ⟨o.p, j, none⟩ = false := by
  refine ⟨?_, ?_, ?_, ?_, fun j => frozen_of_row _ _ _ _ _ h.head⟩ <;> (rw [cell_of_row _ _ _ _ _ _ h.head]; rfl)
structure Step (o o' : Ob) (w w' : World) : Prop where
  fr : Fr o.fp w w'
  fp : ∀ k, o'.fp k → o.fp k ∨ w.heap.size ≤ k
  p : o'.p = o.p
theorem Step.refl (o : Ob) (w : World) : Step o o w w := ⟨Fr.refl _ _, fun _ h => .inl h, rfl⟩
theorem Step.trans {a b c : Ob} {u v w : World} (h : Step a b u v) (k : Step b c v w) : Step a c u w := by
  refine ⟨h.fr.trans k.fr fun i hi hb => ?_, fun i hi => ?_, k.p.trans h.p⟩
  · rcases h.fp i hb with h1 | h1
    · exact h1
    · omega
  · rcases k.fp i hi with h1 | h1
    · exact h.fp i h1
    · exact .inr (Nat.le_trans h.fr.size h1)
theorem Step.of_below {o : Ob} {w w' : World} (h : Below w.heap.size w w') : Step o o w w' := ⟨Fr.of_below h, fun _ h => .inl h, rfl⟩
theorem Step.below {o o' : Ob} {w w' : World} (h : Step o o' w w') {B : Nat} (hB : B ≤ w.heap.size) (ho : ∀ k, o.fp k → B ≤ k) : Below B w w' ∧ ∀ k, o'.fp k → B ≤ k :=
  ⟨h.fr.below hB ho, fun k hk => (h.fp k hk).elim (ho k) (Nat.le_trans hB)⟩
def Went (o : Ob) (n : Nat) (c g : List Int) (w w' : World) : Prop := ∃ o', Tk w' o' n c g ∧ Step o o' w w'
def Tm (w : World) (o : Ob) (m : List Int) : Prop := ∃ n c g, Tk w o n c g ∧ full n c = m
theorem Tm.lt {w : World} {o : Ob} {m : List Int} (h : Tm w o m) (k : Nat) (hk : o.fp k) : k < w.heap.size := by
  obtain ⟨n, c, g, ht, _⟩ := h
  exact ht.lt k hk
theorem Tm.same {w w' : World} {o : Ob} {m : List Int} (h : Tm w o m) (hb : ∀ k, o.fp k → w'.heap[k]? = w.heap[k]?) : Tm w' o m := by
  obtain ⟨n, c, g, ht, e⟩ := h
  exact ⟨n, c, g, ht.same hb, e⟩
theorem Tm.keep {w w' : World} {o : Ob} {m : List Int} {F : Nat → Prop} (h : Tm w o m) (hf : Fr F w w') (hd : ∀ k, o.fp k → ¬ F k) : Tm w' o m := h.same fun k hk => hf.block k (h.lt k hk) (hd k hk)
theorem Tm.below {w w' : World} {o : Ob} {m : List Int} (h : Tm w o m) (hb : Below w.heap.size w w') : Tm w' o m := h.same fun k hk => hb.block k (h.lt k hk)
theorem Tm.ok {w : World} {o : Ob} {m : List Int} (h : Tm w o m) : Ok m := by
  obtain ⟨n, c, g, ht, rfl⟩ := h
  exact ht.pr.ok
def WentM (o : Ob) (m : List Int) (w w' : World) : Prop := ∃ o', Tm w' o' m ∧ Step o o' w w'
theorem Went.trans {o o1 : Ob} {n : Nat} {c g : List Int} {w w1 w2 : World} (h1 : Step o o1 w w1) (h : Went o1 n c g w1 w2) : Went o n c g w w2 := by
  obtain ⟨o2, hd, hs⟩ := h
  exact ⟨o2, hd, h1.trans hs⟩
theorem Went.below {o : Ob} {n : Nat} {c g : List Int} {w w1 w2 : World} (hb : Below w.heap.size w w1) (h : Went o n c g w1 w2) : Went o n c g w w2 := Went.trans (Step.of_below hb) h
structure Made (m : List Int) (B : Nat) (w : World) (e : Ending) (w' : World) : Prop where
  make : ∃ o, e = .returned (.pointer (some ⟨o.p, 0, none⟩)) ∧ Tm w' o m ∧ ∀ k, o.fp k → B ≤ k
  below : Below B w w'
end Tb
end Go.Proofs.YtbmabcddciibfaaGreat
namespace Go.Proofs.YtbmabcddciibfaaGreat
namespace Tb
open Go.Shelf Go.RowKit
theorem info_int : (Tryz.prog.info? 3).map (fun i => (i.zero, i.size, i.bytes)) = some (some (.int .i64 0), 1, 8) := by kernel_rfl
theorem ints_one (l : List Int) : ∀ u ∈ l.map (Value.int .i64), u.oneCell' = true := by
  intro u hu
  obtain ⟨x, _, rfl⟩ := List.mem_map.1 hu
  rfl
end Tb
end Go.Proofs.YtbmabcddciibfaaGreat
namespace Go.Proofs.YtbmabcddciibfaaGreat
namespace Tb
open Go.RowKit Dsk
set_option linter.unusedVariables false
theorem ints_cell {w : World} {a : Option Addr} {c : Nat} {l : List Int} (h : Ints w (.slice a l.length c) l) (i : Nat) (hi : i < l.length) : ∃ b, a = some ⟨b, 0, none⟩ ∧ b < w.heap.size ∧ w.cell? ⟨b, i, none⟩ = some (.int .i64 (Hp.at_ l i)) ∧ w.frozen? ⟨b, i, none⟩ = false := by
  rcases h.2 with ⟨h1, h2⟩ | ⟨b, cap, cur, hv, _, hh, _⟩
  · omega
  · injection hv with h1 h2 h3
    subst h1
    subst h3
    refine ⟨b, rfl, lt_of_heap hh, ?_, frozen_of_row _ _ _ _ _ hh⟩
    rw [h.cellAt i (by omega), List.getElem?_map, Hp.at_get l i hi]
    rfl
theorem ints_slice {w : World} {v : Value} {l : List Int} (h : Ints w v l) : ∃ a c, v = .slice a l.length c := own_slice h
theorem ints_some {w : World} {a : Option Addr} {c : Nat} {l : List Int} (h : Ints w (.slice a l.length c) l) (hl : 0 < l.length) : ∃ b, a = some ⟨b, 0, none⟩ := by
  obtain ⟨b, e, _⟩ := ints_cell h 0 hl
  exact ⟨b, e⟩
theorem gap_less {w : World} {a : Option Addr} {c : Nat} {g : List Int} (h : Ints w (.slice a g.length c) g) (i j : Nat) (hi : i < g.length) (hj : j < g.length) (hg : g.length ≤ 2097152) :
    Calls Tryz.prog 234 #[.slice a g.length c, .int .i64 (i : Int), .int .i64 (j : Int)] w fun e w' => e = .returned (.bool (decide (Hp.at_ g i < Hp.at_ g j))) ∧ Below w.heap.size w w' := by
  obtain ⟨b, rfl, hb, hci, _⟩ := ints_cell h i hi
  obtain ⟨_, _, _, hcj, _⟩ := ints_cell h j hj
  cases ‹some _ = some _›
  obtain ⟨n, hn⟩ : ∃ n, n = g.length := ⟨_, rfl⟩
  obtain ⟨x, hx⟩ : ∃ x, x = Hp.at_ g i := ⟨_, rfl⟩
  obtain ⟨y, hy⟩ : ∃ y, y = Hp.at_ g j := ⟨_, rfl⟩
  rw [← hn] at hi hj hg ⊢
  rw [← hx] at hci ⊢
  rw [← hy] at hcj ⊢
  clear hn hx hy h
  go_enter Tryz.func234, Tryz.ntmps234
  go_wp2
  go_quiet (fail)
  go_wp2
  go_ret
  exact ⟨rfl, by first | exact Below.refl _ _ | exact (Below.refl _ _).drew | exact ⟨rfl, rfl, rfl, Nat.le_refl _, fun _ _ => rfl⟩⟩
theorem ints_set {w : World} {b cap : Nat} {l : List Int} (h : w.ownsRow 0 3 1 (.slice (some ⟨b, 0, none⟩) l.length cap) l.length (nums l)) (i : Nat) (x : Int) :
    (w.setCell ⟨b, i, none⟩ (.int .i64 x)).ownsRow 0 3 1 (.slice (some ⟨b, 0, none⟩) l.length cap) l.length (nums (l.set i x)) ∧ Fr (fun k => k = b) w (w.setCell ⟨b, i, none⟩ (.int .i64 x)) := by
  obtain ⟨h1, h2⟩ := h.stored i (.int .i64 x)
  refine ⟨?_, Fr.of_grown h2 (fun k e => by injection e with e; exact e.symm)⟩
  rw [nums, List.map_set]
  exact h1
theorem gap_swap {w : World} {a : Option Addr} {c : Nat} {g : List Int} (h : Ints w (.slice a g.length c) g) (i j : Nat) (hi : i < g.length) (hj : j < g.length) (hg : g.length ≤ 2097152) :
    Calls Tryz.prog 235 #[.slice a g.length c, .int .i64 (i : Int), .int .i64 (j : Int)] w fun e w' => e = .returned (.tuple #[]) ∧ Ints w' (.slice a g.length c) (Hp.swap g i j) ∧ Fr (fun k => (Value.slice a g.length c).ownBlock = some k) w w' := by
  obtain ⟨b, rfl, hb, hci, hfi⟩ := ints_cell h i hi
  obtain ⟨_, e, _, hcj, hfj⟩ := ints_cell h j hj
  cases e
  obtain ⟨n, hn⟩ : ∃ n, n = g.length := ⟨_, rfl⟩
  obtain ⟨x, hx⟩ : ∃ x, x = Hp.at_ g i := ⟨_, rfl⟩
  obtain ⟨y, hy⟩ : ∃ y, y = Hp.at_ g j := ⟨_, rfl⟩
  have H := Lib.hid h
  have HN := Lib.hid hn
  have HX := Lib.hid hx
  have HY := Lib.hid hy
  rw [← hn] at hi hj hg
  rw [← hx] at hci
  rw [← hy] at hcj
  rw [← hn]
  have done : ∀ w1 : World, (∀ k : Nat, w1.heap[k]? = w.heap[k]?) → w1.os = w.os → w1.tape = w.tape → w1.output = w.output → w1.heap.size = w.heap.size →
      Ints ((w1.setCell ⟨b, i, none⟩ (.int .i64 y)).setCell ⟨b, j, none⟩ (.int .i64 x)) (.slice (some ⟨b, 0, none⟩) n c) (Hp.swap g i j) ∧
      Fr (fun k => (Value.slice (some ⟨b, 0, none⟩) n c).ownBlock = some k) w ((w1.setCell ⟨b, i, none⟩ (.int .i64 y)).setCell ⟨b, j, none⟩ (.int .i64 x)) := by
    intro w1 hw1 ho ht hp hs
    have h1 : Ints w1 (.slice (some ⟨b, 0, none⟩) g.length c) g := own_same H.out fun k _ => hw1 k
    obtain ⟨r1, f1⟩ := ints_set h1 i y
    have r1' : (w1.setCell ⟨b, i, none⟩ (.int .i64 y)).ownsRow 0 3 1 (.slice (some ⟨b, 0, none⟩) (g.set i y).length c) (g.set i y).length (nums (g.set i y)) := by simpa using r1
    obtain ⟨r2, f2⟩ := ints_set r1' j x
    have f0 : Fr (fun k => k = b) w w1 := ⟨ho, ht, hp, by omega, fun k _ _ => hw1 k⟩
    refine ⟨?_, ((f0.trans f1 (fun _ _ e => e)).trans f2 (fun _ _ e => e)).mono (fun k _ e => by rw [e]; rfl)⟩
    have e : Hp.swap g i j = (g.set i y).set j x := by unfold Hp.swap; rw [← HX.out, ← HY.out]
    rw [e]
    show World.ownsRow _ _ _ _ _ _ _
    rw [HN.out]
    simpa using r2
  have hs1 : ∃ z, (w.setCell ⟨b, i, none⟩ (.int .i64 y)).cell? ⟨b, j, none⟩ = some (.int .i64 z) ∧ (w.setCell ⟨b, i, none⟩ (.int .i64 y)).frozen? ⟨b, j, none⟩ = false := by
    obtain ⟨r1, _⟩ := ints_set H.out i y
    have r1' : Ints (w.setCell ⟨b, i, none⟩ (.int .i64 y)) (.slice (some ⟨b, 0, none⟩) (g.set i y).length c) (g.set i y) := by show World.ownsRow _ _ _ _ _ _ _; simpa using r1
    obtain ⟨_, e, _, h1, h2⟩ := ints_cell r1' j (by simpa [← HN.out] using hj)
    cases e
    exact ⟨_, h1, h2⟩
  obtain ⟨z, hz1, hz2⟩ := hs1
  have DONE := Lib.hid done
  clear hn hx hy h done
  go_enter Tryz.func235, Tryz.ntmps235
  go_wp2
  go_region
  all_goals
    go_wp2
    go_end0
    first
    | exact ⟨rfl, DONE.out _ (fun _ => rfl) rfl rfl rfl rfl⟩
    | (refine ⟨rfl, ?_⟩; exact DONE.out w.drew (fun _ => rfl) rfl rfl rfl rfl)
theorem gap_len {w : World} (a : Option Addr) (n c : Nat) : Calls Tryz.prog 233 #[.slice a n c] w fun e w' => e = .returned (.int .i64 (n : Int)) ∧ w = w' := by
  go_enter Tryz.func233, Tryz.ntmps233
  go_wp2
  go_ret
  exact ⟨rfl, rfl⟩
end Tb
end Go.Proofs.YtbmabcddciibfaaGreat
namespace Go.Proofs.YtbmabcddciibfaaGreat
namespace Tb
open Go.RowKit Dsk
set_option linter.unusedVariables false
structure Gh (w : World) (p : Nat) (v0 v1 v2 gv : Value) (g : List Int) : Prop where
  head : w.heap[p]? = some (.cells #[v0, v1, v2, gv] 155 (0, 0))
  row : Ints w gv g
theorem Gh.lt {w : World} {p : Nat} {v0 v1 v2 gv : Value} {g : List Int} (h : Gh w p v0 v1 v2 gv g) : p < w.heap.size := lt_of_heap h.head
theorem Gh.ne {w : World} {p : Nat} {v0 v1 v2 gv : Value} {g : List Int} (h : Gh w p v0 v1 v2 gv g) : gv.ownBlock ≠ some p := fun e => by
  obtain ⟨cur, hc⟩ := own_block h.row _ e
  rw [h.head] at hc; injection hc with hc; injection hc with _ hc; cases hc
theorem Gh.rlt {w : World} {p : Nat} {v0 v1 v2 gv : Value} {g : List Int} (h : Gh w p v0 v1 v2 gv g) (k : Nat) (hk : gv.ownBlock = some k) : k < w.heap.size := by
  obtain ⟨cur, hc⟩ := own_block h.row k hk; exact lt_of_heap hc
theorem Gh.same {w w' : World} {p : Nat} {v0 v1 v2 gv : Value} {g : List Int} (h : Gh w p v0 v1 v2 gv g) (hp : w'.heap[p]? = w.heap[p]?) (hr : ∀ k, gv.ownBlock = some k → w'.heap[k]? = w.heap[k]?) : Gh w' p v0 v1 v2 gv g :=
  ⟨hp.trans h.head, own_same h.row hr⟩
theorem Gh.below {w w' : World} {p : Nat} {v0 v1 v2 gv : Value} {g : List Int} (h : Gh w p v0 v1 v2 gv g) (hb : Below w.heap.size w w') : Gh w' p v0 v1 v2 gv g := h.same (hb.block p h.lt) fun k hk => hb.block k (h.rlt k hk)
theorem Gh.cell {w : World} {p : Nat} {v0 v1 v2 gv : Value} {g : List Int} (h : Gh w p v0 v1 v2 gv g) : w.cell? ⟨p, 3, none⟩ = some gv := by rw [cell_of_row _ _ _ _ _ _ h.head]; rfl
theorem Gh.frozen {w : World} {p : Nat} {v0 v1 v2 gv : Value} {g : List Int} (h : Gh w p v0 v1 v2 gv g) : w.frozen? ⟨p, 3, none⟩ = false := frozen_of_row _ _ _ _ _ h.head
def Gf (p : Nat) (gv : Value) (k : Nat) : Prop := k = p ∨ gv.ownBlock = some k
structure Gs (p : Nat) (gv gv' : Value) (w w' : World) : Prop where
  fr : Fr (Gf p gv) w w'
  own : ∀ k, gv'.ownBlock = some k → gv.ownBlock = some k ∨ w.heap.size ≤ k
theorem Gs.refl (p : Nat) (gv : Value) (w : World) : Gs p gv gv w w := ⟨Fr.refl _ _, fun _ h => .inl h⟩
theorem Gs.trans {p : Nat} {a b c : Value} {u v w : World} (h : Gs p a b u v) (k : Gs p b c v w) (hp : p < u.heap.size) : Gs p a c u w := by
  refine ⟨h.fr.trans k.fr fun i hi hb => ?_, fun i hi => ?_⟩
  · rcases hb with e | e
    · exact .inl e
    · rcases h.own i e with h1 | h1
      · exact .inr h1
      · omega
  · rcases k.own i hi with h1 | h1
    · exact h.own i h1
    · exact .inr (Nat.le_trans h.fr.size h1)
theorem nums_one (x : Int) : ∀ u ∈ ([.int .i64 x] : List Value), u.oneCell' = true := fun u hu => by rw [List.mem_singleton.1 hu]; rfl
structure GApp (w : World) (gv : Value) (l : List Int) (x : Int) (b cap : Nat) (w2 : World) : Prop where
  row : w2.ownsRow 0 3 1 (.slice (some ⟨b, 0, none⟩) (l.length + 1) cap) (l.length + 1) (nums (l ++ [x]))
  fr : Fr (fun k => gv.ownBlock = some k) w w2
  own : gv.ownBlock = some b ∨ w.heap.size ≤ b
theorem GApp.of {w : World} {gv : Value} {l : List Int} {n : Nat} {x : Int} {b cap : Nat} {w1 w2 : World} (hn : n = l.length) (hb : Below w.heap.size w w1) (hown : w2.ownsRow 0 3 1 (.slice (some ⟨b, 0, none⟩) (n + 1) cap) (n + 1) (nums l ++ [.int .i64 x])) (hg : w1.grownBy w2 gv.ownBlock)
    (hat : gv.ownBlock = some b ∨ b = w.heap.size + 1) : GApp w gv l x b cap w2 := by
  subst hn
  refine ⟨by rw [nums, List.map_append]; exact hown, (Fr.of_below hb).trans (Fr.of_grown (F := fun k => gv.ownBlock = some k) hg fun k e => e) (fun _ _ e => e), hat.imp id (fun e => by omega)⟩
theorem ints_add {b n cap : Nat} {w : World} {l : List Int} {x : Int} (hn : n = l.length) (h : w.ownsRow 0 3 1 (.slice (some ⟨b, 0, none⟩) (n + 1) cap) (n + 1) (nums (l ++ [x]))) : Ints w (.slice (some ⟨b, 0, none⟩) (n + 1) cap) (l ++ [x]) := by
  subst hn
  show World.ownsRow _ _ _ _ _ _ _
  rw [List.length_append, List.length_singleton]
  exact h
theorem assert_int (x : Int) (w : World) : (Instr.typeAssert (.iface 3 (.int .i64 x)) 20 3 false).run Tryz.prog w = .ok (.int .i64 x) w := by kernel_rfl
set_option maxHeartbeats 1000000 in
theorem gap_push {w : World} {p : Nat} {v0 v1 v2 gv : Value} {g : List Int} (h : Gh w p v0 v1 v2 gv g) (x : Int) (hg : g.length ≤ 1048576) :
    Calls Tryz.prog 237 #[.pointer (some ⟨p, 3, none⟩), .iface 3 (.int .i64 x)] w fun e w' => e = .returned (.tuple #[]) ∧ ∃ gv', Gh w' p v0 v1 v2 gv' (g ++ [x]) ∧ Gs p gv gv' w w' := by
  obtain ⟨i0, hi, hz0, hz1, hz2⟩ := info_parts info_int
  obtain ⟨a, c, rfl⟩ := ints_slice h.row
  have hc := h.cell
  have hf := h.frozen
  have hrow := h.row
  have hlt := h.lt
  obtain ⟨n, hn⟩ : ∃ n, n = g.length := ⟨_, rfl⟩
  rw [← hn] at hc hg
  have hal : Below w.heap.size w (w.alloc (.cells #[.int .i64 x] 3)).drew := ((Below.refl _ _).alloc (Nat.le_refl _) _).drew
  have OWN : Hid ((w.alloc (.cells #[.int .i64 x] 3)).drew.ownsRow 0 3 1 (.slice a n c) n (nums g)) := by
    have := own_same (w' := (w.alloc (.cells #[.int .i64 x] 3)).drew) hrow fun k hk => hal.block k (h.rlt k hk)
    rwa [← hn] at this
  have NEWS : Hid (∀ j u, ([.int .i64 x] : List Value)[j]? = some u → (w.alloc (.cells #[.int .i64 x] 3)).drew.cell? ((⟨w.heap.size, 0, none⟩ : Addr).add j) = some u) :=
    World.news_of_block (cs := #[.int .i64 x]) (show (w.alloc _).heap[w.heap.size]? = _ from heap_alloc_new _ _)
  have ONE := Lib.hid (nums_one x)
  have hca : (w.alloc (.cells #[.int .i64 x] 3)).cell? ⟨p, 3, none⟩ = some (.slice a n c) := (World.cell?_of_block (w := w) (a := ⟨p, 3, none⟩) (Below.heap_alloc _ _ _ hlt)).trans hc
  have H : Hid (Gh w p v0 v1 v2 (.slice a n c) g) := by rw [hn]; exact h
  have HN := Lib.hid hn
  have HAL := Lib.hid hal
  rw [← hn]
  have hta := assert_int x
  clear h hn hrow hal
  go_enter Tryz.func237, Tryz.ntmps237
  go_wp2
  go_region_law (refine step_append_lies _ rfl (.tmp 7) (.tmp 10) 153 rfl 0 3 i0 _ 1 8 Tryz.underlying153 hi hz0 hz1 hz2 rfl (by decide) (.slice a n c) n (nums g) (by simp [Act.eval]) OWN.out ⟨w.heap.size, 0, none⟩ 1 1 [.int .i64 x] (by simp [Act.eval]) rfl NEWS.out ONE.out (by omega) (by unfold maxLen; omega) (by omega) (Nat.zero_le _) (w.heap.size + 1) (by simp) ?_; intro b cap w2 hown2 hg2 hat2 hlt2; have APP := Lib.hid (GApp.of HN.out HAL.out hown2 hg2 hat2); have hh := (APP.out.fr.block p H.out.lt H.out.ne).trans H.out.head; have c4 : w2.cell? ⟨p, 3, none⟩ = some (.slice a n c) := (by rw [cell_of_row _ _ _ _ _ _ hh]; rfl); have f4 : w2.frozen? ⟨p, 3, none⟩ = false := frozen_of_row _ _ _ _ _ hh; clear hh hown2 hg2 hat2 hlt2)
  all_goals
    go_wp2
    go_end0
    have hh := (APP.out.fr.block p H.out.lt H.out.ne).trans H.out.head
    have hne : b ≠ p := fun e => by
      rcases APP.out.own with h1 | h1
      · exact H.out.ne (by rw [h1, e])
      · have := H.out.lt; omega
    refine ⟨rfl, .slice (some ⟨b, 0, none⟩) (n + 1) cap, ⟨?_, ?_⟩, ?_, ?_⟩
    · rw [heap_setCell_same _ _ _ _ _ _ hh]; rfl
    · have hr := APP.out.row
      rw [← HN.out] at hr
      exact own_same (ints_add HN.out hr) fun k hk => Below.heap_setCell _ _ _ _ (by intro e; injection hk with hk; exact hne (hk.trans e))
    · exact Fr.setCell (F := Gf p (.slice a n c)) (APP.out.fr.mono fun k _ e => .inr e) _ (.inl rfl) _
    · intro k hk
      injection hk with hk
      subst hk
      exact APP.out.own
theorem ints_take {w : World} {a : Option Addr} {c n : Nat} {g : List Int} (h : Ints w (.slice a g.length c) g) (hn : g.length = n + 1) : Ints w (.slice a n c) (g.take n) := by
  have hl : (g.take n).length = n := by simp [hn]
  show World.ownsRow _ _ _ _ _ _ _
  rw [hl]
  rcases h.2 with ⟨_, h0⟩ | ⟨b, cap, cur, hv, hb, hh, h1, h2, h3, h4⟩
  · omega
  · injection hv with e1 e2 e3
    subst e1
    subst e3
    refine ⟨by simpa using hl, .inr ⟨b, c, cur, rfl, hb, hh, by omega, h2, h3, ?_⟩⟩
    have := congrArg (List.take (n * 1)) h4
    rw [List.take_take, show min (n * 1) (g.length * 1) = n * 1 by omega] at this
    rw [this, Nat.mul_one, nums, nums, List.map_take]
theorem gap_pop {w : World} {p : Nat} {v0 v1 v2 gv : Value} {g : List Int} (h : Gh w p v0 v1 v2 gv g) (n : Nat) (hn : g.length = n + 1) (hg : g.length ≤ 1048576) :
    Calls Tryz.prog 236 #[.pointer (some ⟨p, 3, none⟩)] w fun e w' => e = .returned (.iface 3 (.int .i64 (Hp.at_ g n))) ∧ ∃ gv', Gh w' p v0 v1 v2 gv' (g.take n) ∧ Gs p gv gv' w w' := by
  obtain ⟨a, c, rfl⟩ := ints_slice h.row
  have hc := h.cell
  have hf := h.frozen
  obtain ⟨b, rfl, hb, hcn, _⟩ := ints_cell h.row n (by omega)
  have hcap : n + 1 ≤ c := by
    rcases h.row.2 with ⟨h1, h0⟩ | ⟨b', cap, cur, hv, _, _, h1, _⟩
    · omega
    · injection hv with _ _ e; omega
  have HT := Lib.hid (ints_take h.row hn)
  obtain ⟨x, hx⟩ : ∃ x, x = Hp.at_ g n := ⟨_, rfl⟩
  rw [← hx] at hcn ⊢
  rw [hn] at hc hg
  have H := Lib.hid h
  have HN := Lib.hid hn
  clear hx h hn
  have k1 : n ≤ c := by omega
  have k2 : IntKind.i64.wrap ((n : Int) + 1 - 1) = (n : Int) := by rw [IntWalk.i64_in _ (by omega)]; omega
  have k3 : (n : Int) + 1 - 1 = (n : Int) := by omega
  have k4 : ((n + 1 : Nat) : Int) = (n : Int) + 1 := by omega
  go_enter Tryz.func236, Tryz.ntmps236
  go_wp2
  go_ret
  have hne : b ≠ p := fun e => H.out.ne (by rw [← e]; rfl)
  refine ⟨rfl, .slice (some ⟨b, 0, none⟩) n c, ⟨?_, ?_⟩, ?_, ?_⟩
  · rw [heap_setCell_same _ _ _ _ _ _ H.out.head]; rfl
  · exact own_same HT.out fun k hk => Below.heap_setCell _ _ _ _ (by intro e; injection hk with hk; exact hne (hk.trans e))
  · exact Fr.setCell (Fr.refl (Gf p _) _) _ (.inl rfl) _
  · exact fun k hk => .inl hk
end Tb
end Go.Proofs.YtbmabcddciibfaaGreat
