/- A heap of numbers, in plain words: what stands first is the least. -/
namespace Go.Proofs.Ytibemiiflibnaaa
namespace Hp
/-- What stands at a place. -/
def at_ (g : List Int) (k : Nat) : Int := g.getD k 0
theorem at_get (g : List Int) (k : Nat) (h : k < g.length) : g[k]? = some (at_ g k) := by unfold at_; rw [List.getD_eq_getElem?_getD, List.getElem?_eq_getElem h]; rfl
theorem at_append_left (g : List Int) (x : Int) (k : Nat) (h : k < g.length) : at_ (g ++ [x]) k = at_ g k := by unfold at_; rw [List.getD_eq_getElem?_getD, List.getD_eq_getElem?_getD, List.getElem?_append_left h]
theorem at_mem (g : List Int) (k : Nat) (h : k < g.length) : at_ g k ∈ g := by
  have := at_get g k h
  exact List.mem_of_getElem? this
theorem mem_at {g : List Int} {x : Int} (h : x ∈ g) : ∃ k, k < g.length ∧ at_ g k = x := by
  obtain ⟨k, hk, e⟩ := List.getElem_of_mem h
  refine ⟨k, hk, ?_⟩
  unfold at_
  rw [List.getD_eq_getElem?_getD, List.getElem?_eq_getElem hk, e]
  rfl

/-- Two places changed about. -/
def swap (g : List Int) (i j : Nat) : List Int := (g.set i (at_ g j)).set j (at_ g i)
theorem swap_length (g : List Int) (i j : Nat) : (swap g i j).length = g.length := by simp [swap]
theorem at_set (g : List Int) (i k : Nat) (x : Int) (h : i < g.length) : at_ (g.set i x) k = if k = i then x else at_ g k := by
  unfold at_
  rw [List.getD_eq_getElem?_getD, List.getD_eq_getElem?_getD, List.getElem?_set]
  by_cases e : i = k
  · subst e; simp [h]
  · rw [if_neg e, if_neg (fun c => e c.symm)]
theorem at_swap (g : List Int) (i j k : Nat) (hi : i < g.length) (hj : j < g.length) : at_ (swap g i j) k = if k = j then at_ g i else if k = i then at_ g j else at_ g k := by
  unfold swap
  rw [at_set _ _ _ _ (by simpa using hj), at_set _ _ _ _ hi]
theorem swap_perm (g : List Int) (i j : Nat) (hi : i < g.length) (hj : j < g.length) : (swap g i j).Perm g := by
  have e1 : at_ g j = g[j] := by unfold at_; rw [List.getD_eq_getElem?_getD, List.getElem?_eq_getElem hj]; rfl
  have e2 : at_ g i = g[i] := by unfold at_; rw [List.getD_eq_getElem?_getD, List.getElem?_eq_getElem hi]; rfl
  unfold swap
  rw [e1, e2]
  exact List.set_set_perm hi hj

/-- The place ahead of a place. -/
abbrev par (k : Nat) : Nat := (k - 1) / 2
/-- The first so many are a heap. -/
def HeapN (g : List Int) (n : Nat) : Prop := ∀ k, 0 < k → k < n → at_ g (par k) ≤ at_ g k
def Heap (g : List Int) : Prop := HeapN g g.length
theorem heap_nil : Heap [] := fun k _ h => by simp at h
theorem heap_least {g : List Int} {n : Nat} (h : HeapN g n) : ∀ k, k < n → at_ g 0 ≤ at_ g k := by
  intro k
  induction k using Nat.strongRecOn with
  | ind k ih =>
    intro hk
    by_cases e : k = 0
    · rw [e]; exact Int.le_refl _
    · exact Int.le_trans (ih (par k) (by unfold par; omega) (by unfold par; omega)) (h k (by omega) hk)

/-- Going up: all is right but for what stands at j, that may be too small. -/
def Up (g : List Int) (j : Nat) : Prop := j < g.length ∧ (∀ k, 0 < k → k < g.length → k ≠ j → at_ g (par k) ≤ at_ g k) ∧ (∀ k, 0 < k → k < g.length → par k = j → 0 < j → at_ g (par j) ≤ at_ g k)
theorem up_start {g : List Int} (h : Heap g) (x : Int) : Up (g ++ [x]) g.length := by
  refine ⟨by simp, fun k h0 hk hne => ?_, fun k h0 hk e _ => ?_⟩
  · have hk' : k < g.length := by simp at hk; omega
    rw [at_append_left _ _ _ hk', at_append_left _ _ _ (by unfold par; omega)]
    exact h k h0 hk'
  · simp at hk
    unfold par at e
    omega
theorem up_done {g : List Int} {j : Nat} (h : Up g j) (hd : j = 0 ∨ at_ g (par j) ≤ at_ g j) : Heap g := by
  intro k h0 hk
  by_cases e : k = j
  · subst e
    rcases hd with hd | hd
    · omega
    · exact hd
  · exact h.2.1 k h0 hk e
theorem up_step {g : List Int} {j : Nat} (h : Up g j) (h0 : 0 < j) (hlt : at_ g j < at_ g (par j)) : Up (swap g (par j) j) (par j) := by
  obtain ⟨hj, h1, h2⟩ := h
  have hp : par j < g.length := by unfold par; omega
  have hpj : par j < j := by unfold par; omega
  refine ⟨by rw [swap_length]; exact hp, fun k hk hkl hne => ?_, fun k hk hkl e hpos => ?_⟩
  · rw [swap_length] at hkl
    rw [at_swap _ _ _ _ hp hj, at_swap _ _ _ _ hp hj]
    by_cases e1 : k = j
    · subst e1
      rw [if_neg (by omega), if_pos rfl, if_pos rfl]
      omega
    · rw [if_neg (by omega : ¬ k = j), if_neg hne]
      by_cases e2 : par k = j
      · rw [if_pos e2]
        exact h2 k hk hkl e2 h0
      · rw [if_neg e2]
        by_cases e3 : par k = par j
        · rw [if_pos e3]
          have := h1 k hk hkl e1
          rw [e3] at this
          omega
        · rw [if_neg e3]
          exact h1 k hk hkl e1
  · rw [swap_length] at hkl
    have hpp : par (par j) < par j := by show (par j - 1) / 2 < par j; omega
    have hpl : par j < g.length := hp
    have hA : at_ g (par (par j)) ≤ at_ g (par j) := h1 (par j) hpos hpl (by omega)
    rw [at_swap _ _ _ _ hp hj, at_swap _ _ _ _ hp hj, if_neg (by omega : ¬ par (par j) = j), if_neg (by omega : ¬ par (par j) = par j)]
    have hkp : k ≠ par j := by intro c; rw [c] at e; omega
    by_cases e1 : k = j
    · rw [if_pos e1]; exact hA
    · rw [if_neg e1, if_neg hkp]
      have := h1 k hk hkl e1
      rw [e] at this
      exact Int.le_trans hA this

/-- Going down among the first n: all is right but for what stands at i, that may be too great. -/
def Down (g : List Int) (i n : Nat) : Prop := n ≤ g.length ∧ (∀ k, 0 < k → k < n → par k ≠ i → at_ g (par k) ≤ at_ g k) ∧ (∀ k, 0 < k → k < n → par k = i → 0 < i → at_ g (par i) ≤ at_ g k)
theorem down_start {g : List Int} (h : Heap g) (n : Nat) (hn : g.length = n + 1) : Down (swap g 0 n) 0 n := by
  refine ⟨by rw [swap_length]; omega, fun k h0 hk hne => ?_, fun k h0 hk e hpos => by omega⟩
  rw [at_swap _ _ _ _ (by omega) (by omega), at_swap _ _ _ _ (by omega) (by omega), if_neg (by unfold par; omega), if_neg hne, if_neg (by omega), if_neg (by omega)]
  exact h k h0 (by omega)
theorem down_leaf {g : List Int} {i n : Nat} (h : Down g i n) (hl : n ≤ 2 * i + 1) : HeapN g n := fun k h0 hk => h.2.1 k h0 hk (by unfold par; omega)
/-- The lesser child: j. -/
def Least (g : List Int) (i j n : Nat) : Prop := j < n ∧ par j = i ∧ 0 < j ∧ ∀ k, 0 < k → k < n → par k = i → at_ g j ≤ at_ g k
theorem least_one {g : List Int} {i n : Nat} (h : 2 * i + 1 < n) (h2 : n ≤ 2 * i + 2 ∨ at_ g (2 * i + 1) ≤ at_ g (2 * i + 2)) : Least g i (2 * i + 1) n := by
  refine ⟨h, by unfold par; omega, by omega, fun k h0 hk e => ?_⟩
  have : k = 2 * i + 1 ∨ k = 2 * i + 2 := by unfold par at e; omega
  rcases this with rfl | rfl
  · exact Int.le_refl _
  · rcases h2 with h2 | h2
    · omega
    · exact h2
theorem least_two {g : List Int} {i n : Nat} (h : 2 * i + 2 < n) (h2 : at_ g (2 * i + 2) < at_ g (2 * i + 1)) : Least g i (2 * i + 2) n := by
  refine ⟨h, by unfold par; omega, by omega, fun k h0 hk e => ?_⟩
  have : k = 2 * i + 1 ∨ k = 2 * i + 2 := by unfold par at e; omega
  rcases this with rfl | rfl
  · omega
  · exact Int.le_refl _
theorem down_done {g : List Int} {i j n : Nat} (h : Down g i n) (hl : Least g i j n) (hd : at_ g i ≤ at_ g j) : HeapN g n := fun k h0 hk => by
  by_cases e : par k = i
  · rw [e]; exact Int.le_trans hd (hl.2.2.2 k h0 hk e)
  · exact h.2.1 k h0 hk e
theorem down_step {g : List Int} {i j n : Nat} (h : Down g i n) (hl : Least g i j n) (hlt : at_ g j < at_ g i) : Down (swap g i j) j n := by
  obtain ⟨hn, h1, h2⟩ := h
  obtain ⟨hj, hp, h0j, hmin⟩ := hl
  have hij : i < j := by unfold par at hp; omega
  have hi' : i < g.length := by omega
  have hj' : j < g.length := by omega
  refine ⟨by rw [swap_length]; exact hn, fun k h0 hk hne => ?_, fun k h0 hk e hpos => ?_⟩
  · rw [at_swap _ _ _ _ hi' hj', at_swap _ _ _ _ hi' hj', if_neg hne]
    by_cases e1 : par k = i
    · rw [if_pos e1]
      by_cases e2 : k = j
      · rw [if_pos e2]; omega
      · rw [if_neg e2, if_neg (by unfold par at e1; omega)]
        exact hmin k h0 hk e1
    · rw [if_neg e1, if_neg (by intro c; rw [c] at e1; exact e1 hp)]
      by_cases e3 : k = i
      · rw [if_pos e3, e3]
        exact h2 j h0j hj hp (by omega)
      · rw [if_neg e3]
        exact h1 k h0 hk e1
  · rw [hp, at_swap _ _ _ _ hi' hj', at_swap _ _ _ _ hi' hj', if_neg (by omega), if_pos rfl]
    have hkj : k ≠ j := by unfold par at e; omega
    have hki : k ≠ i := by unfold par at e; omega
    rw [if_neg hkj, if_neg hki]
    have := h1 k h0 hk (by omega)
    rw [e] at this
    exact this
/-- What is taken off the end. -/
theorem take_last {g : List Int} {n : Nat} (hn : g.length = n + 1) : g = g.take n ++ [at_ g n] := by
  have e : at_ g n = g[n] := by unfold at_; rw [List.getD_eq_getElem?_getD, List.getElem?_eq_getElem (by omega)]; rfl
  rw [e]
  have := List.take_append_drop n g
  rw [List.drop_eq_getElem_cons (by omega), List.drop_eq_nil_of_le (by omega)] at this
  exact this.symm
theorem heap_take {g : List Int} {n : Nat} (h : HeapN g n) (hn : n ≤ g.length) : Heap (g.take n) := by
  intro k h0 hk
  have hk' : k < n := by simp at hk; omega
  have e : ∀ i, i < n → at_ (g.take n) i = at_ g i := fun i hi => by unfold at_; rw [List.getD_eq_getElem?_getD, List.getD_eq_getElem?_getD, List.getElem?_take, if_pos hi]
  rw [e k hk', e (par k) (by unfold par; omega)]
  exact h k h0 hk'
end Hp
end Go.Proofs.Ytibemiiflibnaaa
