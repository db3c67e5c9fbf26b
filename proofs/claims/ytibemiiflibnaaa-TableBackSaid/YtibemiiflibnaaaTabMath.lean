/- Tables in plain words: what stands at each place; -1: it is free. -/
import Derived.Test.YtibemiiflibnaaaTabHeapMath
import Derived.Lib.SlKeysI
namespace Go.Proofs.Ytibemiiflibnaaa
namespace Tb
set_option linter.unusedVariables false

theorem fi_some {p : Int → Bool} {m : List Int} {i : Nat} : m.findIdx? p = some i ↔ (∃ x, m[i]? = some x ∧ p x = true) ∧ ∀ j x, j < i → m[j]? = some x → p x = false := by
  rw [List.findIdx?_eq_some_iff_getElem]
  constructor
  · rintro ⟨h, hp, hn⟩
    refine ⟨⟨m[i], by simp [h], hp⟩, fun j x hj hx => ?_⟩
    obtain ⟨hl, rfl⟩ := List.getElem?_eq_some_iff.1 hx
    simpa using hn j hj
  · rintro ⟨⟨x, hx, hp⟩, hn⟩
    obtain ⟨hl, rfl⟩ := List.getElem?_eq_some_iff.1 hx
    exact ⟨hl, hp, fun j hj => by simpa using hn j _ hj (List.getElem?_eq_getElem (by omega))⟩
theorem fi_none {p : Int → Bool} {m : List Int} : m.findIdx? p = none ↔ ∀ x ∈ m, p x = false := by simp [List.findIdx?_eq_none_iff]

/-- A chunk's place. -/
def find (m : List Int) (k : Int) : Option Nat := m.findIdx? (fun x => decide (x = k) && decide (0 ≤ k))
theorem find_some {m : List Int} {k : Int} {i : Nat} : find m k = some i ↔ 0 ≤ k ∧ m[i]? = some k ∧ ∀ j, j < i → m[j]? ≠ some k := by
  unfold find
  rw [fi_some]
  constructor
  · rintro ⟨⟨x, hx, hp⟩, hn⟩
    simp at hp
    obtain ⟨rfl, h0⟩ := hp
    exact ⟨h0, hx, fun j hj hc => by have := hn j _ hj hc; simp at this; omega⟩
  · rintro ⟨h0, hx, hn⟩
    refine ⟨⟨k, hx, by simp [h0]⟩, fun j x hj hc => ?_⟩
    have := hn j hj
    simp only [Bool.and_eq_false_iff, decide_eq_false_iff_not]
    left
    intro e
    subst e
    exact this hc
theorem find_none {m : List Int} {k : Int} : find m k = none ↔ (0 ≤ k → k ∉ m) := by
  unfold find
  rw [fi_none]
  constructor
  · intro h h0 hm
    have := h k hm
    simp at this
    omega
  · intro h x hx
    simp only [Bool.and_eq_false_iff, decide_eq_false_iff_not]
    by_cases h0 : 0 ≤ k
    · left; intro e; subst e; exact h h0 hx
    · exact .inr h0
/-- The first free place. -/
def gap (m : List Int) : Option Nat := m.findIdx? (fun x => decide (x < 0))
theorem gap_some {m : List Int} {i : Nat} : gap m = some i ↔ (∃ x, m[i]? = some x ∧ x < 0) ∧ ∀ j x, j < i → m[j]? = some x → 0 ≤ x := by
  unfold gap
  rw [fi_some]
  simp
theorem gap_none {m : List Int} : gap m = none ↔ ∀ x ∈ m, 0 ≤ x := by
  unfold gap
  rw [fi_none]
  simp
theorem gap_lt {m : List Int} {i : Nat} (h : gap m = some i) : i < m.length := by
  obtain ⟨⟨x, hx, _⟩, _⟩ := gap_some.1 h
  exact (List.getElem?_eq_some_iff.1 hx).1
theorem find_lt {m : List Int} {k : Int} {i : Nat} (h : find m k = some i) : i < m.length := (List.getElem?_eq_some_iff.1 (find_some.1 h).2.1).1

/-- Put, Drop: what stands then; what is answered. -/
def put (m : List Int) (k : Int) : List Int × Int × Int :=
  if 0 ≤ k ∧ k ≤ 2147483646 then match find m k with
    | some i => (m, (i : Int), 0)
    | none => match gap m with
      | some i => (m.set i k, (i : Int), 0)
      | none => (m, 0, 111)
  else (m, 0, 1)
def drop (m : List Int) (k : Int) : List Int × Int × Int := match find m k with
  | some i => (m.set i (-1), (i : Int), 0)
  | none => (m, 0, 161)
theorem put_arg {m : List Int} {k : Int} (h : ¬ (0 ≤ k ∧ k ≤ 2147483646)) : put m k = (m, 0, 1) := by unfold put; rw [if_neg h]
theorem put_has {m : List Int} {k : Int} (h : 0 ≤ k ∧ k ≤ 2147483646) {i : Nat} (hf : find m k = some i) : put m k = (m, (i : Int), 0) := by unfold put; rw [if_pos h, hf]
theorem put_new {m : List Int} {k : Int} (h : 0 ≤ k ∧ k ≤ 2147483646) (hf : find m k = none) {i : Nat} (hg : gap m = some i) : put m k = (m.set i k, (i : Int), 0) := by unfold put; rw [if_pos h, hf]; simp only [hg]
theorem put_full {m : List Int} {k : Int} (h : 0 ≤ k ∧ k ≤ 2147483646) (hf : find m k = none) (hg : gap m = none) : put m k = (m, 0, 111) := by unfold put; rw [if_pos h, hf]; simp only [hg]
theorem drop_has {m : List Int} {k : Int} {i : Nat} (hf : find m k = some i) : drop m k = (m.set i (-1), (i : Int), 0) := by unfold drop; rw [hf]
theorem drop_none {m : List Int} {k : Int} (hf : find m k = none) : drop m k = (m, 0, 161) := by unfold drop; rw [hf]

/-- What a table may hold. -/
structure Ok (m : List Int) : Prop where
  few : m.length ≤ 1048576
  vals : ∀ x ∈ m, -1 ≤ x ∧ x ≤ 2147483646
  uni : ∀ (i j : Nat) (k : Int), m[i]? = some k → m[j]? = some k → 0 ≤ k → i = j
theorem Ok.find {m : List Int} (h : Ok m) {k : Int} {i : Nat} (h0 : 0 ≤ k) (hi : m[i]? = some k) : find m k = some i :=
  find_some.2 ⟨h0, hi, fun j hj hc => by have := h.uni i j k hi hc h0; omega⟩
theorem Ok.set {m : List Int} (h : Ok m) {k : Int} (i : Nat) (h1 : -1 ≤ k) (h2 : k ≤ 2147483646) (hm : 0 ≤ k → k ∉ m) : Ok (m.set i k) := by
  refine ⟨by simpa using h.few, fun x hx => ?_, fun a b x ha hb h0 => ?_⟩
  · rcases List.mem_or_eq_of_mem_set hx with hx | rfl
    · exact h.vals x hx
    · exact ⟨h1, h2⟩
  · rw [List.getElem?_set] at ha hb
    by_cases ea : i = a
    · by_cases eb : i = b
      · omega
      · rw [if_pos ea] at ha
        rw [if_neg eb] at hb
        split at ha
        · injection ha with ha
          subst ha
          exact (hm h0 (List.mem_of_getElem? hb)).elim
        · cases ha
    · rw [if_neg ea] at ha
      by_cases eb : i = b
      · rw [if_pos eb] at hb
        split at hb
        · injection hb with hb
          subst hb
          exact (hm h0 (List.mem_of_getElem? ha)).elim
        · cases hb
      · rw [if_neg eb] at hb
        exact h.uni a b x ha hb h0
theorem put_ok {m : List Int} (h : Ok m) (k : Int) : Ok (put m k).1 := by
  unfold put
  split
  · rename_i hk
    split
    · exact h
    · rename_i hf
      split
      · exact h.set _ (by omega) hk.2 (find_none.1 hf)
      · exact h
  · exact h
theorem drop_ok {m : List Int} (h : Ok m) (k : Int) : Ok (drop m k).1 := by
  unfold drop
  split
  · exact h.set _ (by omega) (by omega) (fun c => by omega)
  · exact h
theorem put_length (m : List Int) (k : Int) : (put m k).1.length = m.length := by
  unfold put
  split
  · split
    · rfl
    · split
      · simp
      · rfl
  · rfl
theorem drop_length (m : List Int) (k : Int) : (drop m k).1.length = m.length := by
  unfold drop
  split
  · simp
  · rfl
theorem ok_new (n : Nat) (h : n ≤ 1048576) : Ok (List.replicate n (-1)) := by
  refine ⟨by simpa using h, fun x hx => by rw [(List.mem_replicate.1 hx).2]; omega, fun i j k hi hj h0 => ?_⟩
  rw [List.getElem?_replicate] at hi
  split at hi
  · injection hi with hi; omega
  · cases hi

/-- So many places; of the first ones what stands there, all others are free. -/
def full (n : Nat) (c : List Int) : List Int := c ++ List.replicate (n - c.length) (-1)
theorem full_length {n : Nat} {c : List Int} (h : c.length ≤ n) : (full n c).length = n := by simp [full]; omega
theorem full_nil (n : Nat) : full n [] = List.replicate n (-1) := by simp [full]
theorem full_left {n : Nat} {c : List Int} {i : Nat} (h : i < c.length) : (full n c)[i]? = c[i]? := by unfold full; rw [List.getElem?_append_left h]
theorem full_right {n : Nat} {c : List Int} {i : Nat} (h : c.length ≤ i) (hn : i < n) : (full n c)[i]? = some (-1) := by
  unfold full
  rw [List.getElem?_append_right h, List.getElem?_replicate, if_pos (by omega)]
theorem full_used {n : Nat} {c : List Int} {i : Nat} {k : Int} (h : (full n c)[i]? = some k) (h0 : 0 ≤ k) : c[i]? = some k := by
  by_cases hi : i < c.length
  · rwa [full_left hi] at h
  · unfold full at h
    rw [List.getElem?_append_right (by omega), List.getElem?_replicate] at h
    split at h
    · injection h with h; omega
    · cases h
theorem full_set {n : Nat} {c : List Int} {i : Nat} (x : Int) (h : i < c.length) : (full n c).set i x = full n (c.set i x) := by
  unfold full
  rw [List.set_append_left _ _ h, List.length_set]
theorem full_more {n : Nat} {c : List Int} (h : c.length < n) : full n (c ++ [-1]) = full n c := by
  unfold full
  rw [List.append_assoc]
  congr 1
  rw [List.length_append, List.length_singleton, show n - c.length = (n - (c.length + 1)) + 1 by omega, List.replicate_succ]
  rfl
theorem full_snoc {n : Nat} {c : List Int} (x : Int) (h : c.length < n) : (full n c).set c.length x = full n (c ++ [x]) := by
  rw [← full_more h, full_set x (by simp)]
  congr 1
  rw [List.set_append_right _ _ (Nat.le_refl _)]
  simp
theorem full_mem {n : Nat} {c : List Int} {k : Int} (h0 : 0 ≤ k) : k ∈ full n c ↔ k ∈ c := by
  unfold full
  rw [List.mem_append]
  constructor
  · rintro (h | h)
    · exact h
    · have := (List.mem_replicate.1 h).2; omega
  · exact .inl

/-- The program's own table: its places, the first of them, and the free ones among these in a heap. -/
structure Pr (n : Nat) (c g : List Int) : Prop where
  len : c.length ≤ n
  ok : Ok (full n c)
  heap : Hp.Heap g
  nodup : g.Nodup
  mem : ∀ x, x ∈ g ↔ ∃ i : Nat, x = (i : Int) ∧ c[i]? = some (-1)
theorem Pr.few {n : Nat} {c g : List Int} (h : Pr n c g) : n ≤ 1048576 := by have := h.ok.few; rwa [full_length h.len] at this
theorem Pr.vals {n : Nat} {c g : List Int} (h : Pr n c g) {i : Nat} {k : Int} (hi : c[i]? = some k) : -1 ≤ k ∧ k ≤ 2147483646 := h.ok.vals k (by unfold full; exact List.mem_append.2 (.inl (List.mem_of_getElem? hi)))
theorem Pr.glen {n : Nat} {c g : List Int} (h : Pr n c g) : g.length ≤ c.length := by
  have hp : g.Perm (((List.range c.length).filter (fun i => c[i]? == some (-1))).map fun i : Nat => (i : Int)) := by
    refine (List.perm_ext_iff_of_nodup h.nodup ?_).2 fun x => ?_
    · refine List.pairwise_map.2 ((List.nodup_range.filter _).imp fun {a b} hne e => hne (by omega))
    · rw [h.mem x, List.mem_map]
      constructor
      · rintro ⟨i, rfl, hi⟩
        exact ⟨i, List.mem_filter.2 ⟨List.mem_range.2 (List.getElem?_eq_some_iff.1 hi).1, by rw [hi]; rfl⟩, rfl⟩
      · rintro ⟨i, hi, rfl⟩
        have hi2 := (List.mem_filter.1 hi).2
        exact ⟨i, rfl, beq_iff_eq.1 hi2⟩
  rw [hp.length_eq, List.length_map]
  exact Nat.le_trans (List.length_filter_le _ _) (by simp)
theorem Pr.new (n : Nat) (h : n ≤ 1048576) : Pr n [] [] := ⟨Nat.zero_le _, by rw [full_nil]; exact ok_new n h, Hp.heap_nil, List.nodup_nil, fun x => by simp⟩
/-- One more free place is told. -/
theorem Pr.more {n : Nat} {c g g' : List Int} (h : Pr n c g) (hn : c.length < n) (hp : g'.Perm (g ++ [(c.length : Int)])) (hh : Hp.Heap g') : Pr n (c ++ [-1]) g' := by
  refine ⟨by simp; omega, by rw [full_more hn]; exact h.ok, hh, ?_, fun x => ?_⟩
  · refine hp.nodup_iff.2 (List.nodup_append.2 ⟨h.nodup, by simp, fun a ha b hb => ?_⟩)
    rw [List.mem_singleton.1 hb]
    obtain ⟨i, rfl, hi⟩ := (h.mem a).1 ha
    have := (List.getElem?_eq_some_iff.1 hi).1
    omega
  · rw [hp.mem_iff, List.mem_append, h.mem x, List.mem_singleton]
    constructor
    · rintro (⟨i, rfl, hi⟩ | rfl)
      · exact ⟨i, rfl, by rw [List.getElem?_append_left (List.getElem?_eq_some_iff.1 hi).1]; exact hi⟩
      · exact ⟨c.length, rfl, by simp⟩
    · rintro ⟨i, rfl, hi⟩
      by_cases hl : i < c.length
      · rw [List.getElem?_append_left hl] at hi
        exact .inl ⟨i, rfl, hi⟩
      · have : i < (c ++ [-1]).length := (List.getElem?_eq_some_iff.1 hi).1
        simp at this
        exact .inr (by omega)
/-- A chunk behind all that were told. -/
theorem Pr.snoc {n : Nat} {c g : List Int} (h : Pr n c g) (hn : c.length < n) {k : Int} (h0 : 0 ≤ k) (h1 : k ≤ 2147483646) (hk : k ∉ c) : Pr n (c ++ [k]) g := by
  refine ⟨by simp; omega, by rw [← full_snoc k hn]; exact h.ok.set _ (by omega) h1 (fun _ => by rw [full_mem h0]; exact hk), h.heap, h.nodup, fun x => ?_⟩
  rw [h.mem x]
  constructor
  · rintro ⟨i, rfl, hi⟩
    exact ⟨i, rfl, by rw [List.getElem?_append_left (List.getElem?_eq_some_iff.1 hi).1]; exact hi⟩
  · rintro ⟨i, rfl, hi⟩
    by_cases hl : i < c.length
    · rw [List.getElem?_append_left hl] at hi
      exact ⟨i, rfl, hi⟩
    · rw [List.getElem?_append_right (by omega)] at hi
      cases e : i - c.length with
      | zero => rw [e] at hi; simp at hi; omega
      | succ j => rw [e] at hi; simp at hi
/-- A chunk at a free place among those that were told. -/
theorem Pr.fill {n : Nat} {c g g' : List Int} (h : Pr n c g) {i : Nat} (hp : ((i : Int) :: g').Perm g) (hh : Hp.Heap g') {k : Int} (h0 : 0 ≤ k) (h1 : k ≤ 2147483646) (hk : k ∉ c) : c[i]? = some (-1) ∧ Pr n (c.set i k) g' := by
  have hi : c[i]? = some (-1) := by
    obtain ⟨j, hj, hc⟩ := (h.mem (i : Int)).1 (hp.mem_iff.1 (by simp))
    have : i = j := by omega
    rw [this]; exact hc
  have hil := (List.getElem?_eq_some_iff.1 hi).1
  have hnd := hp.nodup_iff.2 h.nodup
  rw [List.nodup_cons] at hnd
  refine ⟨hi, ⟨by simpa using h.len, by rw [← full_set k hil]; exact h.ok.set _ (by omega) h1 (fun _ => by rw [full_mem h0]; exact hk), hh, hnd.2, fun x => ?_⟩⟩
  have hx : x ∈ g' ↔ x ∈ g ∧ x ≠ (i : Int) := by
    rw [← hp.mem_iff, List.mem_cons]
    constructor
    · exact fun hx => ⟨.inr hx, fun e => hnd.1 (e ▸ hx)⟩
    · rintro ⟨rfl | hx, hne⟩
      · exact (hne rfl).elim
      · exact hx
  rw [hx, h.mem x]
  constructor
  · rintro ⟨⟨j, rfl, hj⟩, hne⟩
    exact ⟨j, rfl, by rw [List.getElem?_set, if_neg (fun e => hne (by rw [e]))]; exact hj⟩
  · rintro ⟨j, rfl, hj⟩
    rw [List.getElem?_set] at hj
    by_cases hne : i = j
    · rw [if_pos hne, if_pos hil] at hj
      injection hj with hj; omega
    · rw [if_neg hne] at hj
      exact ⟨⟨j, rfl, hj⟩, fun e => hne (by omega)⟩
/-- A chunk's place is free again. -/
theorem Pr.free {n : Nat} {c g g' : List Int} (h : Pr n c g) {i : Nat} {k : Int} (hi : c[i]? = some k) (h0 : 0 ≤ k) (hp : g'.Perm (g ++ [(i : Int)])) (hh : Hp.Heap g') : Pr n (c.set i (-1)) g' := by
  have hil := (List.getElem?_eq_some_iff.1 hi).1
  refine ⟨by simpa using h.len, by rw [← full_set (-1) hil]; exact h.ok.set _ (by omega) (by omega) (fun c => by omega), hh, ?_, fun x => ?_⟩
  · refine hp.nodup_iff.2 (List.nodup_append.2 ⟨h.nodup, by simp, fun a ha b hb => ?_⟩)
    rw [List.mem_singleton.1 hb]
    obtain ⟨j, rfl, hj⟩ := (h.mem a).1 ha
    intro e
    have : j = i := by omega
    rw [this, hi] at hj
    injection hj with hj
    omega
  · rw [hp.mem_iff, List.mem_append, h.mem x, List.mem_singleton]
    constructor
    · rintro (⟨j, rfl, hj⟩ | rfl)
      · refine ⟨j, rfl, ?_⟩
        rw [List.getElem?_set]
        by_cases e : i = j
        · rw [if_pos e, if_pos hil]
        · rw [if_neg e]; exact hj
      · exact ⟨i, rfl, by rw [List.getElem?_set, if_pos rfl, if_pos hil]⟩
    · rintro ⟨j, rfl, hj⟩
      rw [List.getElem?_set] at hj
      by_cases e : i = j
      · exact .inr (by rw [e])
      · rw [if_neg e] at hj
        exact .inl ⟨j, rfl, hj⟩
/-- The first free place. -/
theorem Pr.gap_heap {n : Nat} {c g : List Int} (h : Pr n c g) (hg : g ≠ []) : ∃ i : Nat, Hp.at_ g 0 = (i : Int) ∧ gap (full n c) = some i := by
  have h0 : 0 < g.length := List.length_pos_iff.2 hg
  obtain ⟨i, hi, hc⟩ := (h.mem (Hp.at_ g 0)).1 (Hp.at_mem g 0 h0)
  have hil := (List.getElem?_eq_some_iff.1 hc).1
  refine ⟨i, hi, gap_some.2 ⟨⟨-1, by rw [full_left hil]; exact hc, by omega⟩, fun j x hj hx => ?_⟩⟩
  rw [full_left (by omega)] at hx
  by_cases hx0 : 0 ≤ x
  · exact hx0
  · have := h.vals hx
    have hx1 : x = -1 := by omega
    rw [hx1] at hx
    obtain ⟨a, ha, e⟩ := Hp.mem_at ((h.mem (j : Int)).2 ⟨j, rfl, hx⟩)
    have := Hp.heap_least h.heap a ha
    omega
theorem Pr.gap_end {n : Nat} {c : List Int} (h : Pr n c []) (hn : c.length < n) : gap (full n c) = some c.length := by
  refine gap_some.2 ⟨⟨-1, full_right (Nat.le_refl _) hn, by omega⟩, fun j x hj hx => ?_⟩
  rw [full_left hj] at hx
  by_cases hx0 : 0 ≤ x
  · exact hx0
  · have := h.vals hx
    have hx1 : x = -1 := by omega
    rw [hx1] at hx
    have := (h.mem (j : Int)).2 ⟨j, rfl, hx⟩
    simp at this

/-- All chunks, in the order of their places. -/
def used (m : List Int) : List Int := m.filter (fun x => decide (0 ≤ x))
theorem used_mem {m : List Int} {x : Int} : x ∈ used m ↔ x ∈ m ∧ 0 ≤ x := by simp [used]
theorem used_nodup {m : List Int} (h : Ok m) : (used m).Nodup := by
  have : ∀ s : List Int, (∀ (i j : Nat) (k : Int), s[i]? = some k → s[j]? = some k → 0 ≤ k → i = j) → (used s).Nodup := by
    intro s
    induction s with
    | nil => intro _; simp [used]
    | cons x s ih =>
      intro hu
      have ih' := ih fun i j k hi hj h0 => by have := hu (i + 1) (j + 1) k (by simpa using hi) (by simpa using hj) h0; omega
      by_cases hx : 0 ≤ x
      · rw [show used (x :: s) = x :: used s by simp [used, hx], List.nodup_cons]
        refine ⟨fun hm => ?_, ih'⟩
        obtain ⟨j, hj⟩ := List.getElem?_of_mem (used_mem.1 hm).1
        have := hu 0 (j + 1) x rfl (by simpa using hj) hx
        omega
      · rw [show used (x :: s) = used s by simp [used, hx]]
        exact ih'
  exact this m h.uni
theorem used_full (n : Nat) (c : List Int) : used (full n c) = used c := by
  unfold used full
  rw [List.filter_append]
  simp
theorem used_length_le (m : List Int) : (used m).length ≤ m.length := List.length_filter_le _ _
/-- None is free: as many are used as there are places. -/
theorem gap_none_iff {m : List Int} : gap m = none ↔ m.length = (used m).length := by
  rw [gap_none]
  unfold used
  constructor
  · intro h
    rw [List.filter_eq_self.2 (fun x hx => by simpa using h x hx)]
  · intro h x hx
    have := List.length_filter_eq_length_iff.1 h.symm x hx
    simpa using this
end Tb
end Go.Proofs.Ytibemiiflibnaaa
